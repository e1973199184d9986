/- The document's divide. -/
import Derived.Test.YtglgbhlnfafhjaaRdv
import Derived.Test.YtglgbhlnfafhjaaRsm
namespace Go.Proofs.Ytglgbhlnfafhjaa
open Go.RowKit

theorem ret_two {a b a' b' : Value} (h : a = a') (k : b = b') : Ending.returned (.tuple #[a, b]) = .returned (.tuple #[a', b']) := by rw [h, k]
theorem neg_mod_pos {n : Nat} {y : Int} (y0 : 0 < y) (y1 : y < 2 ^ n) : 0 < (-y) % 2 ^ n := by
  have e : -y = (2 ^ n - y) + 2 ^ n * (-1) := by omega
  rw [e, Int.add_mul_emod_self_left, Int.emod_eq_of_lt (by omega) (by omega)]; omega
set_option maxHeartbeats 3200000 in
set_option maxRecDepth 10000 in
theorem rdivide_zero (A B : Option Addr) (n c d : Nat) (x y : Int) (sg : Bool) (hn : n ≤ 128) (hy : y % 2 ^ n = 0) (hc : n ≤ c) (hm : c ≤ maxLen) (w : World) (ha : Rd bolv w A (bitsI n x)) (hb : Rd bolv w B (bitsI n y)) :
    Calls Try.prog 28 #[.slice A n c, .slice B n d, .bool sg] w fun e w' => AnsQR w n (-1) x e w' := by
  have HA := Lib.hid ha
  have HS := Lib.hid (rsome_any B n d y (by omega) w hb)
  rw [show decide (y % 2 ^ n ≠ 0) = false by simp [hy]] at HS
  have H0 := Lib.hid (fun wx => noughts_b n (by omega) wx)
  have HN := Lib.hid (fun A c wx hr => rnot_b A n c 0 (by omega) wx hr)
  rw [show (-1 : Int) - 0 = -1 by omega] at HN
  clear ha hb hy
  go_enter Try.func28, Try.ntmps28
  go_wp2_with (first
    | (go_at_call 50
       refine (HS.out).mono ?_
       rintro e w1 ⟨rfl, hf⟩
       have HF1 := Lib.hid hf
       clear hf)
    | (go_at_call 49
       refine (H0.out _).mono ?_
       rintro e w2 ⟨A2, c2, rfl, _, hr2, _, _, hf⟩
       have HR2 := Lib.hid hr2
       have HF2 := Lib.hid (HF1.out.call hf)
       clear hr2 hf)
    | (go_at_call 25
       refine (HN.out _ _ _ HR2.out).mono ?_
       rintro e w3 ⟨A3, c3, rfl, _, hr3, hl3, hm3, hf⟩
       have HR3 := Lib.hid hr3
       have HF3 := Lib.hid (HF2.out.call hf)
       clear hr3 hf))
  go_ret2
  exact ⟨_, _, _, _, rfl, HR3.out, hl3, hm3, HA.out.fr HF3.out, hc, hm, HF3.out⟩
set_option maxHeartbeats 3200000 in
set_option maxRecDepth 10000 in
theorem rdivide_u (A B : Option Addr) (n c d : Nat) (x y : Int) (h1 : 1 ≤ n) (hn : n ≤ 128) (x0 : 0 ≤ x) (x1 : x < 2 ^ n) (y0 : 0 < y) (y1 : y < 2 ^ n) (w : World) (ha : Rd bolv w A (bitsI n x)) (hb : Rd bolv w B (bitsI n y)) :
    Calls Try.prog 28 #[.slice A n c, .slice B n d, .bool false] w fun e w' => AnsQR w n (x / y) (x % y) e w' := by
  have HA := Lib.hid ha
  have HB := Lib.hid hb
  have HS := Lib.hid (rsome_any B n d y (by omega) w hb)
  rw [show decide (y % 2 ^ n ≠ 0) = true by rw [Int.emod_eq_of_lt (by omega) y1]; simp; omega] at HS
  have hp := two_pos n
  have HD := Lib.hid (fun A B c d wx ha hb => rdiv_any A B n c d x y h1 hn x0 x1 y0 y1 wx ha hb)
  clear ha hb hp x0 x1 y0 y1
  generalize x / y = Q at *
  generalize x % y = R at *
  go_enter Try.func28, Try.ntmps28
  go_wp2_with (first
    | (go_at_call 50
       refine (HS.out).mono ?_
       rintro e w1 ⟨rfl, hf⟩
       have HF1 := Lib.hid hf
       have HFx := Lib.hid HF1.out
       clear hf)
    | (go_at_call 52
       refine (HD.out _ _ _ _ _ (HA.out.fr HF1.out) (HB.out.fr HF1.out)).mono ?_
       rintro e w2 ⟨Aq, cq, Ar, cr, rfl, hq, hlq, hmq, hr, hlr, hmr, hf⟩
       have HQ := Lib.hid hq
       have HR := Lib.hid hr
       have HF2 := Lib.hid (HF1.out.call hf)
       clear hq hr hf))
  go_ret2
  exact ⟨_, _, _, _, rfl, HQ.out, hlq, hmq, HR.out, hlr, hmr, HF2.out⟩
set_option maxHeartbeats 3200000 in
set_option maxRecDepth 10000 in
theorem rdivide_pp (A B : Option Addr) (n c d : Nat) (x y : Int) (h1 : 1 ≤ n) (hn : n ≤ 128) (x0 : 0 ≤ x) (x1 : x < 2 ^ n) (y0 : 0 < y) (y1 : y < 2 ^ n) (hsa : bitI x (n - 1) = false) (hsb : bitI y (n - 1) = false) (w : World) (ha : Rd bolv w A (bitsI n x)) (hb : Rd bolv w B (bitsI n y)) :
    Calls Try.prog 28 #[.slice A n c, .slice B n d, .bool true] w fun e w' => AnsQR w n (x / y) (x % y) e w' := by
  have HA := Lib.hid ha
  have HB := Lib.hid hb
  have HS := Lib.hid (rsome_any B n d y (by omega) w hb)
  rw [show decide (y % 2 ^ n ≠ 0) = true by rw [Int.emod_eq_of_lt (by omega) y1]; simp; omega] at HS
  have HGA := Lib.hid (fun wx hr => sign_any A n c x (by omega) (by omega) wx hr)
  have HGB := Lib.hid (fun wx hr => sign_any B n d y (by omega) (by omega) wx hr)
  rw [hsa] at HGA
  rw [hsb] at HGB
  have hp := two_pos n
  have HD := Lib.hid (fun A B c d wx ha hb => rdiv_any A B n c d x y h1 hn x0 x1 y0 y1 wx ha hb)
  clear ha hb hp x0 x1 y0 y1 hsa hsb
  generalize x / y = Q at *
  generalize x % y = R at *
  go_enter Try.func28, Try.ntmps28
  go_wp2_with (first
    | (go_at_call 50
       refine (HS.out).mono ?_
       rintro e w1 ⟨rfl, hf⟩
       have HF1 := Lib.hid hf
       have HFx := Lib.hid HF1.out
       clear hf)
    | (go_at_call 52
       refine (HD.out _ _ _ _ _ (HA.out.fr HF1.out) (HB.out.fr HF1.out)).mono ?_
       rintro e w2 ⟨Aq, cq, Ar, cr, rfl, hq, hlq, hmq, hr, hlr, hmr, hf⟩
       have HQ := Lib.hid hq
       have HR := Lib.hid hr
       have HF2 := Lib.hid (HF1.out.call hf)
       clear hq hr hf)
    | (go_at_call_of 31 A
       refine (HGA.out _ (by first | with_reducible exact HA.out.fr HF2.out | with_reducible exact HA.out.fr HF1.out)).mono ?_
       rintro e wy ⟨rfl, rfl⟩)
    | (go_at_call_of 31 B
       refine (HGB.out _ (by first | with_reducible exact HB.out.fr HF2.out | with_reducible exact HB.out.fr HF1.out)).mono ?_
       rintro e wy ⟨rfl, rfl⟩))
  go_ret2
  exact ⟨_, _, _, _, rfl, HQ.out, hlq, hmq, HR.out, hlr, hmr, HF2.out⟩
set_option maxHeartbeats 3200000 in
set_option maxRecDepth 10000 in
theorem rdivide_pn (A B : Option Addr) (n c d : Nat) (x y : Int) (h1 : 1 ≤ n) (hn : n ≤ 128) (x0 : 0 ≤ x) (x1 : x < 2 ^ n) (y0 : 0 < y) (y1 : y < 2 ^ n) (hsa : bitI x (n - 1) = false) (hsb : bitI y (n - 1) = true) (w : World) (ha : Rd bolv w A (bitsI n x)) (hb : Rd bolv w B (bitsI n y)) :
    Calls Try.prog 28 #[.slice A n c, .slice B n d, .bool true] w fun e w' => AnsQR w n (-(x / ((-y) % 2 ^ n))) (x % ((-y) % 2 ^ n)) e w' := by
  have HA := Lib.hid ha
  have HB := Lib.hid hb
  have HS := Lib.hid (rsome_any B n d y (by omega) w hb)
  rw [show decide (y % 2 ^ n ≠ 0) = true by rw [Int.emod_eq_of_lt (by omega) y1]; simp; omega] at HS
  have HGA := Lib.hid (fun wx hr => sign_any A n c x (by omega) (by omega) wx hr)
  have HGB := Lib.hid (fun wx hr => sign_any B n d y (by omega) (by omega) wx hr)
  rw [hsa] at HGA
  rw [hsb] at HGB
  have HNB := Lib.hid (fun wx hr => rneg_b B n d y (by omega) wx hr)
  have hp := two_pos n
  have yb0 : 0 < (-y) % 2 ^ n := neg_mod_pos y0 y1
  have yb1 : (-y) % 2 ^ n < 2 ^ n := Int.emod_lt_of_pos _ hp
  have HD := Lib.hid (fun A B c d wx ha hb => rdiv_any A B n c d x ((-y) % 2 ^ n) h1 hn x0 x1 yb0 yb1 wx ha hb)
  have HNQ := Lib.hid (fun A c wx hr => rneg_b A n c (x / ((-y) % 2 ^ n)) (by omega) wx hr)
  clear ha hb hp x0 x1 y0 y1 yb0 yb1 hsa hsb
  generalize x / ((-y) % 2 ^ n) = Q at *
  generalize x % ((-y) % 2 ^ n) = R at *
  go_enter Try.func28, Try.ntmps28
  go_wp2_with (first
    | (go_at_call 50
       refine (HS.out).mono ?_
       rintro e w1 ⟨rfl, hf⟩
       have HF1 := Lib.hid hf
       have HFx := Lib.hid HF1.out
       clear hf)
    | (go_at_call_of 51 B
       refine (HNB.out _ (HB.out.fr HF1.out)).mono ?_
       rintro e w2 ⟨A2, c2, rfl, _, hr, _, _, hf⟩
       have HRY := Lib.hid hr
       have HF2 := Lib.hid (HF1.out.call hf)
       clear hr hf)
    | (go_at_call 52
       refine (HD.out _ _ _ _ _ (HA.out.fr HF2.out) (show Rd bolv _ _ (bitsI n ((-y) % 2 ^ n)) by rw [bitsI_mod]; exact HRY.out)).mono ?_
       rintro e w3 ⟨Aq, cq, Ar, cr, rfl, hq, hlq, hmq, hr, hlr, hmr, hf⟩
       have HQ := Lib.hid hq
       have HR := Lib.hid hr
       have HF3 := Lib.hid (HF2.out.call hf)
       clear hq hr hf)
    | (go_at_call_of 51 Aq
       refine (HNQ.out _ _ _ HQ.out).mono ?_
       rintro e w4 ⟨Bq, dq, rfl, _, hr, hlq2, hmq2, hf⟩
       have HQ2 := Lib.hid hr
       have HR2 := Lib.hid (HR.out.fr hf)
       have HF4 := Lib.hid (HF3.out.call hf)
       clear hr hf)
    | (go_at_call_of 31 A
       refine (HGA.out _ (by first | with_reducible exact HA.out.fr HF4.out | with_reducible exact HA.out.fr HF3.out | with_reducible exact HA.out.fr HF2.out | with_reducible exact HA.out.fr HF1.out)).mono ?_
       rintro e wy ⟨rfl, rfl⟩)
    | (go_at_call_of 31 B
       refine (HGB.out _ (by first | with_reducible exact HB.out.fr HF4.out | with_reducible exact HB.out.fr HF3.out | with_reducible exact HB.out.fr HF2.out | with_reducible exact HB.out.fr HF1.out)).mono ?_
       rintro e wy ⟨rfl, rfl⟩))
  go_ret2
  exact ⟨_, _, _, _, rfl, HQ2.out, hlq2, hmq2, HR2.out, hlr, hmr, HF4.out⟩
set_option maxHeartbeats 3200000 in
set_option maxRecDepth 10000 in
theorem rdivide_np (A B : Option Addr) (n c d : Nat) (x y : Int) (h1 : 1 ≤ n) (hn : n ≤ 128) (x0 : 0 ≤ x) (x1 : x < 2 ^ n) (y0 : 0 < y) (y1 : y < 2 ^ n) (hsa : bitI x (n - 1) = true) (hsb : bitI y (n - 1) = false) (w : World) (ha : Rd bolv w A (bitsI n x)) (hb : Rd bolv w B (bitsI n y)) :
    Calls Try.prog 28 #[.slice A n c, .slice B n d, .bool true] w fun e w' => AnsQR w n (-(((-x) % 2 ^ n) / y)) (-(((-x) % 2 ^ n) % y)) e w' := by
  have HA := Lib.hid ha
  have HB := Lib.hid hb
  have HS := Lib.hid (rsome_any B n d y (by omega) w hb)
  rw [show decide (y % 2 ^ n ≠ 0) = true by rw [Int.emod_eq_of_lt (by omega) y1]; simp; omega] at HS
  have HGA := Lib.hid (fun wx hr => sign_any A n c x (by omega) (by omega) wx hr)
  have HGB := Lib.hid (fun wx hr => sign_any B n d y (by omega) (by omega) wx hr)
  rw [hsa] at HGA
  rw [hsb] at HGB
  have HNA := Lib.hid (fun wx hr => rneg_b A n c x (by omega) wx hr)
  have hp := two_pos n
  have xb0 : 0 ≤ (-x) % 2 ^ n := Int.emod_nonneg _ (two_ne n)
  have xb1 : (-x) % 2 ^ n < 2 ^ n := Int.emod_lt_of_pos _ hp
  have HD := Lib.hid (fun A B c d wx ha hb => rdiv_any A B n c d ((-x) % 2 ^ n) y h1 hn xb0 xb1 y0 y1 wx ha hb)
  have HNQ := Lib.hid (fun A c wx hr => rneg_b A n c (((-x) % 2 ^ n) / y) (by omega) wx hr)
  have HNR := Lib.hid (fun A c wx hr => rneg_b A n c (((-x) % 2 ^ n) % y) (by omega) wx hr)
  clear ha hb hp x0 x1 y0 y1 xb0 xb1 hsa hsb
  generalize ((-x) % 2 ^ n) / y = Q at *
  generalize ((-x) % 2 ^ n) % y = R at *
  go_enter Try.func28, Try.ntmps28
  go_wp2_with (first
    | (go_at_call 50
       refine (HS.out).mono ?_
       rintro e w1 ⟨rfl, hf⟩
       have HF1 := Lib.hid hf
       have HFx := Lib.hid HF1.out
       clear hf)
    | (go_at_call_of 51 A
       refine (HNA.out _ (HA.out.fr HF1.out)).mono ?_
       rintro e w2 ⟨A2, c2, rfl, _, hr, _, _, hf⟩
       have HRX := Lib.hid hr
       have HF2 := Lib.hid (HF1.out.call hf)
       have HFc := Lib.hid hf
       clear hr hf)
    | (go_at_call 52
       refine (HD.out _ _ _ _ _ (show Rd bolv _ _ (bitsI n ((-x) % 2 ^ n)) by rw [bitsI_mod]; exact HRX.out) (HB.out.fr HF2.out)).mono ?_
       rintro e w3 ⟨Aq, cq, Ar, cr, rfl, hq, hlq, hmq, hr, hlr, hmr, hf⟩
       have HQ := Lib.hid hq
       have HR := Lib.hid hr
       have HF3 := Lib.hid (HF2.out.call hf)
       clear hq hr hf)
    | (go_at_call_of 51 Aq
       refine (HNQ.out _ _ _ HQ.out).mono ?_
       rintro e w4 ⟨Bq, dq, rfl, _, hr, hlq2, hmq2, hf⟩
       have HQ2 := Lib.hid hr
       have HR2 := Lib.hid (HR.out.fr hf)
       have HF4 := Lib.hid (HF3.out.call hf)
       clear hr hf)
    | (go_at_call_of 51 Ar
       refine (HNR.out _ _ _ HR2.out).mono ?_
       rintro e w5 ⟨Br, dr, rfl, _, hr, hlr3, hmr3, hf⟩
       have HR3 := Lib.hid hr
       have HQ3 := Lib.hid ((HQ2.out).fr hf)
       have HF5 := Lib.hid (HF4.out.call hf)
       clear hr hf)
    | (go_at_call_of 31 A
       refine (HGA.out _ (by first | with_reducible exact HA.out.fr HF5.out | with_reducible exact HA.out.fr HF4.out | with_reducible exact HA.out.fr HF3.out | with_reducible exact HA.out.fr HF2.out | with_reducible exact HA.out.fr HF1.out)).mono ?_
       rintro e wy ⟨rfl, rfl⟩)
    | (go_at_call_of 31 B
       refine (HGB.out _ (by first | with_reducible exact HB.out.fr HF5.out | with_reducible exact HB.out.fr HF4.out | with_reducible exact HB.out.fr HF3.out | with_reducible exact HB.out.fr HF2.out | with_reducible exact HB.out.fr HF1.out)).mono ?_
       rintro e wy ⟨rfl, rfl⟩))
  go_ret2
  exact ⟨_, _, _, _, rfl, HQ3.out, hlq2, hmq2, HR3.out, hlr3, hmr3, HF5.out⟩
set_option maxHeartbeats 3200000 in
set_option maxRecDepth 10000 in
theorem rdivide_nn (A B : Option Addr) (n c d : Nat) (x y : Int) (h1 : 1 ≤ n) (hn : n ≤ 128) (x0 : 0 ≤ x) (x1 : x < 2 ^ n) (y0 : 0 < y) (y1 : y < 2 ^ n) (hsa : bitI x (n - 1) = true) (hsb : bitI y (n - 1) = true) (w : World) (ha : Rd bolv w A (bitsI n x)) (hb : Rd bolv w B (bitsI n y)) :
    Calls Try.prog 28 #[.slice A n c, .slice B n d, .bool true] w fun e w' => AnsQR w n (((-x) % 2 ^ n) / ((-y) % 2 ^ n)) (-(((-x) % 2 ^ n) % ((-y) % 2 ^ n))) e w' := by
  have HA := Lib.hid ha
  have HB := Lib.hid hb
  have HS := Lib.hid (rsome_any B n d y (by omega) w hb)
  rw [show decide (y % 2 ^ n ≠ 0) = true by rw [Int.emod_eq_of_lt (by omega) y1]; simp; omega] at HS
  have HGA := Lib.hid (fun wx hr => sign_any A n c x (by omega) (by omega) wx hr)
  have HGB := Lib.hid (fun wx hr => sign_any B n d y (by omega) (by omega) wx hr)
  rw [hsa] at HGA
  rw [hsb] at HGB
  have HNA := Lib.hid (fun wx hr => rneg_b A n c x (by omega) wx hr)
  have HNB := Lib.hid (fun wx hr => rneg_b B n d y (by omega) wx hr)
  have hp := two_pos n
  have xb0 : 0 ≤ (-x) % 2 ^ n := Int.emod_nonneg _ (two_ne n)
  have xb1 : (-x) % 2 ^ n < 2 ^ n := Int.emod_lt_of_pos _ hp
  have yb0 : 0 < (-y) % 2 ^ n := neg_mod_pos y0 y1
  have yb1 : (-y) % 2 ^ n < 2 ^ n := Int.emod_lt_of_pos _ hp
  have HD := Lib.hid (fun A B c d wx ha hb => rdiv_any A B n c d ((-x) % 2 ^ n) ((-y) % 2 ^ n) h1 hn xb0 xb1 yb0 yb1 wx ha hb)
  have HNR := Lib.hid (fun A c wx hr => rneg_b A n c (((-x) % 2 ^ n) % ((-y) % 2 ^ n)) (by omega) wx hr)
  clear ha hb hp x0 x1 y0 y1 xb0 xb1 yb0 yb1 hsa hsb
  generalize ((-x) % 2 ^ n) / ((-y) % 2 ^ n) = Q at *
  generalize ((-x) % 2 ^ n) % ((-y) % 2 ^ n) = R at *
  go_enter Try.func28, Try.ntmps28
  go_wp2_with (first
    | (go_at_call 50
       refine (HS.out).mono ?_
       rintro e w1 ⟨rfl, hf⟩
       have HF1 := Lib.hid hf
       have HFx := Lib.hid HF1.out
       clear hf)
    | (go_at_call_of 51 A
       refine (HNA.out _ (HA.out.fr HF1.out)).mono ?_
       rintro e w2 ⟨A2, c2, rfl, _, hr, _, _, hf⟩
       have HRX := Lib.hid hr
       have HF2 := Lib.hid (HF1.out.call hf)
       have HFc := Lib.hid hf
       clear hr hf)
    | (go_at_call_of 51 B
       refine (HNB.out _ (HB.out.fr HF2.out)).mono ?_
       rintro e w3 ⟨A3, c3, rfl, _, hr, _, _, hf⟩
       have HRY := Lib.hid hr
       have HRX2 := Lib.hid (HRX.out.fr hf)
       have HF3 := Lib.hid (HF2.out.call hf)
       clear hr hf)
    | (go_at_call 52
       refine (HD.out _ _ _ _ _ (show Rd bolv _ _ (bitsI n ((-x) % 2 ^ n)) by rw [bitsI_mod]; exact HRX2.out) (show Rd bolv _ _ (bitsI n ((-y) % 2 ^ n)) by rw [bitsI_mod]; exact HRY.out)).mono ?_
       rintro e w4 ⟨Aq, cq, Ar, cr, rfl, hq, hlq, hmq, hr, hlr, hmr, hf⟩
       have HQ := Lib.hid hq
       have HR := Lib.hid hr
       have HF4 := Lib.hid (HF3.out.call hf)
       clear hq hr hf)
    | (go_at_call_of 51 Ar
       refine (HNR.out _ _ _ HR.out).mono ?_
       rintro e w5 ⟨Br, dr, rfl, _, hr, hlr3, hmr3, hf⟩
       have HR3 := Lib.hid hr
       have HQ3 := Lib.hid ((HQ.out).fr hf)
       have HF5 := Lib.hid (HF4.out.call hf)
       clear hr hf)
    | (go_at_call_of 31 A
       refine (HGA.out _ (by first | with_reducible exact HA.out.fr HF5.out | with_reducible exact HA.out.fr HF4.out | with_reducible exact HA.out.fr HF3.out | with_reducible exact HA.out.fr HF2.out | with_reducible exact HA.out.fr HF1.out)).mono ?_
       rintro e wy ⟨rfl, rfl⟩)
    | (go_at_call_of 31 B
       refine (HGB.out _ (by first | with_reducible exact HB.out.fr HF5.out | with_reducible exact HB.out.fr HF4.out | with_reducible exact HB.out.fr HF3.out | with_reducible exact HB.out.fr HF2.out | with_reducible exact HB.out.fr HF1.out)).mono ?_
       rintro e wy ⟨rfl, rfl⟩))
  go_ret2
  exact ⟨_, _, _, _, rfl, HQ3.out, hlq, hmq, HR3.out, hlr3, hmr3, HF5.out⟩
end Go.Proofs.Ytglgbhlnfafhjaa
