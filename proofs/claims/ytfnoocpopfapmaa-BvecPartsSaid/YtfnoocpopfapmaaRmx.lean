/- The document's Extract where all is well. -/
import Derived.Test.YtfnoocpopfapmaaRmk
namespace Go.Proofs.Ytfnoocpopfapmaa
open Go.RowKit

set_option maxHeartbeats 3200000 in
set_option maxRecDepth 10000 in
theorem rextract_ok (n y k : Nat) (v : Int) (h : Norm n v) (h1 : 1 ≤ k) (hyk : y + k ≤ n) (w : World) :
    Calls Try.prog 16 #[bv n v, .int .i64 ((y : Int) + (k : Int) - 1), .int .i64 (y : Int)] w fun e w' => e = .returned (bv k ((v / 2 ^ y) % 2 ^ k)) ∧ Fr w w' := by
  obtain ⟨k1, k2, v0, v1⟩ := h
  rw [Int.toNat_natCast] at v1
  have HN := Lib.hid (fun wx => rnormal_any n v v0 (Int.lt_of_lt_of_le v1 (pow_le128 n (by omega))) wx)
  rw [norm_to ⟨k1, k2, v0, by rw [Int.toNat_natCast]; exact v1⟩] at HN
  have HO := Lib.hid (fun wx => of_b n v (by omega) wx)
  have HT := Lib.hid (fun A c wx hr => to_any A k c (v / 2 ^ y) h1 (by omega) wx hr)
  obtain ⟨b1, b2⟩ := box_res w (.int .i64 (n : Int)) (.int .u64 (hi v)) (.int .u64 (lo v))
  have BA := Lib.hid b1
  have BR := Lib.hid b2
  clear b1 b2
  have q3 : (y : Int) + (k : Int) ≤ 128 := by omega
  have q4 : y + k - y = k := by omega
  clear v0 v1 k1 k2
  have q1 : (y : Int) ≤ (y : Int) + (k : Int) - 1 := by omega
  have q2 : (y : Int) + (k : Int) - 1 < (n : Int) := by omega
  go_enter Try.func16, Try.ntmps16
  go_wp2_with (first
    | (go_at_call 14
       refine (HN.out _).mono ?_
       rintro e w1 ⟨rfl, hf⟩
       have HS1 := Lib.hid (hf)
       clear hf
       obtain ⟨ba0_1, ba1_1, ba2_1⟩ := (BA.out.fr HS1.out).three)
    | (go_at_call 39
       refine (HO.out _).mono ?_
       rintro e w2 ⟨A2, c2, rfl, ho, hr, hl2, hm2, hf⟩
       have HO2 := Lib.hid ho
       have HR2 := Lib.hid hr
       have hcy : ¬ c2 = y := by omega
       have hcy2 : (y : Int) + (k : Int) ≤ (c2 : Int) := by omega
       have hrx := hr.part y k (by rw [bitsI_length]; omega) (B := A2.map (·.add y)) (fun _ => rfl)
       rw [bitsI_drop, bitsI_take _ _ _ (by omega)] at hrx
       have HRx := Lib.hid hrx
       clear hrx
       clear ho hr
       have HS2 := Lib.hid (HS1.out.call hf)
       clear hf
       obtain ⟨ba0_2, ba1_2, ba2_2⟩ := (BA.out.fr HS2.out).three)
    | (go_at_call 40
       refine (HT.out _ _ _ HRx.out).mono ?_
       rintro e w3 ⟨rfl, hf⟩
       have HS3 := Lib.hid (HS2.out.call hf)
       clear hf
       obtain ⟨ba0_3, ba1_3, ba2_3⟩ := (BA.out.fr HS3.out).three
       obtain ⟨br0_3, br1_3, br2_3⟩ := (BR.out.fr HS3.out).three
       obtain ⟨brf0_3, brf1_3, brf2_3⟩ := (BR.out.fr HS3.out).frees))
  have HF := Lib.hid ((((Fr.refl w).alloc _).alloc _).call HS3.out)
  exact bodyPost_ret (v := bv k ((v / 2 ^ y) % 2 ^ k)) (by simp [results, Try.results16, go_sem, hi_zero, lo_zero, *]) rfl ⟨rfl, by repeat (first | with_reducible exact HF.out | (with_reducible refine Fr.set ?_ (by simp) _))⟩
end Go.Proofs.Ytfnoocpopfapmaa
