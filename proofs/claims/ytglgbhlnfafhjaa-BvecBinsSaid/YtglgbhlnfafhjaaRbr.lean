/- What the document's Bin answers: joined; what is refused. -/
import Derived.Test.YtglgbhlnfafhjaaRdd
import Derived.Test.YtglgbhlnfafhjaaRsh
import Derived.Test.YtglgbhlnfafhjaaRbw
import Derived.Deep.RegionHeld3
namespace Go.Proofs.Ytglgbhlnfafhjaa
open Go.RowKit

set_option maxHeartbeats 6400000 in
set_option maxRecDepth 10000 in
theorem rbin_17 (n m : Nat) (v u : Int) (h : Norm n v) (k : Norm m u) (hnm : m + n ≤ 128) (w : World) :
    Calls Try.prog 6 #[.int .i64 17, bv n v, bv m u] w fun e w' => e = .returned (bv ((m + n : Nat) : Int) (joinI m u v % 2 ^ (m + n))) ∧ Fr w w' := by
  have hlv := h.lt128
  have hlu := k.lt128
  obtain ⟨a1, a2, v0, v1⟩ := h
  obtain ⟨b1, b2, u0, u1⟩ := k
  rw [Int.toNat_natCast] at v1 u1
  have HN := Lib.hid (fun wx => rnormal_any n v v0 hlv wx)
  rw [norm_to ⟨a1, a2, v0, by rw [Int.toNat_natCast]; exact v1⟩] at HN
  have HM := Lib.hid (fun wx => rnormal_any m u u0 hlu wx)
  rw [norm_to ⟨b1, b2, u0, by rw [Int.toNat_natCast]; exact u1⟩] at HM
  have HO := Lib.hid (fun wx => of_b n v (by omega) wx)
  have HP := Lib.hid (fun wx => of_b m u (by omega) wx)
  obtain ⟨x1, x2, x3⟩ := box_two w (.int .i64 (n : Int)) (.int .u64 (hi v)) (.int .u64 (lo v)) (.int .i64 (m : Int)) (.int .u64 (hi u)) (.int .u64 (lo u))
  have BA := Lib.hid x1
  have BB := Lib.hid x2
  have BR := Lib.hid x3
  have HT := Lib.hid (fun A c wx hr => to_any A (m + n) c (joinI m u v) (by omega) (by omega) wx hr)
  have hq1 : n ≤ 128 := by omega
  have hq2 : m ≤ 128 := by omega
  clear x1 x2 x3 v0 v1 u0 u1 hlv hlu a1 a2 b1 b2
  go_enter Try.func6, Try.ntmps6
  go_wp2_with (first
    | (go_at_call_of 20 (hi v)
       refine (HN.out _).mono ?_
       rintro e w1 ⟨rfl, hf⟩
       have HS1 := Lib.hid hf
       obtain ⟨p0, p1, p2⟩ := (BA.out.fr HS1.out).three
       obtain ⟨q0, q1, q2⟩ := (BB.out.fr HS1.out).three
       clear hf)
    | (go_at_call_of 20 (hi u)
       refine (HM.out _).mono ?_
       rintro e w2 ⟨rfl, hf⟩
       have HS2 := Lib.hid (HS1.out.call hf)
       obtain ⟨p3, p4, p5⟩ := (BA.out.fr HS2.out).three
       obtain ⟨q3, q4, q5⟩ := (BB.out.fr HS2.out).three
       clear hf))
  go_region_held3 (fun w' => World.cell? w' ⟨w.heap.size, 0, none⟩ = some (.int .i64 (n : Int)) ∧ World.cell? w' ⟨w.heap.size, 1, none⟩ = some (.int .u64 (hi v)) ∧ World.cell? w' ⟨w.heap.size, 2, none⟩ = some (.int .u64 (lo v)) ∧ World.cell? w' ⟨w.heap.size + 1, 0, none⟩ = some (.int .i64 (m : Int)) ∧ World.cell? w' ⟨w.heap.size + 1, 1, none⟩ = some (.int .u64 (hi u)) ∧ World.cell? w' ⟨w.heap.size + 1, 2, none⟩ = some (.int .u64 (lo u))) (simp [go_sem, *])
    (first
      | (go_at_call_of 21 (hi v); refine (HO.out _).mono ?_; rintro e w3 ⟨A3, c3, rfl, ho3, hr3, hl3, hm3, hf⟩; have HO3 := Lib.hid ho3; have HR3 := Lib.hid hr3; have HS3 := Lib.hid (HS2.out.drew.call hf); obtain ⟨p6, p7, p8⟩ := (BA.out.fr HS3.out).three; obtain ⟨q6, q7, q8⟩ := (BB.out.fr HS3.out).three; clear hf ho3 hr3)
      | (go_at_call_of 21 (hi u); refine (HP.out _).mono ?_; rintro e w4 ⟨A4, c4, rfl, ho4, hr4, hl4, hm4, hf⟩; have HO4 := Lib.hid ho4; have HZF := Lib.hid hf; have HZ4 := Lib.hid hf.size; have HR4 := Lib.hid hr4; have HR34 := Lib.hid (HR3.out.fr hf); have HS4 := Lib.hid (HS3.out.call hf); obtain ⟨p9, pa, pb⟩ := (BA.out.fr HS4.out).three; obtain ⟨q9, qa, qb⟩ := (BB.out.fr HS4.out).three; obtain ⟨r9, ra, rb⟩ := (BR.out.fr HS4.out).three; obtain ⟨t9, ta, tb⟩ := (BR.out.fr HS4.out).frees; clear hf ho4 hr4))
  all_goals
    go_wp2_with (first
      | (at_builtin; refine wpList_append_rd one_bool _ rfl (.tmp 53) (.tmp 54) 41 rfl w3.heap.size 4 Try.underlying41 Try.infob rfl _ (bitsI m u) rfl HO4.out A3 n c3 (bitsI n v) rfl (bitsI_length _ _) HR34.out (by rw [bitsI_length]; unfold maxLen; omega) (by rw [bitsI_length]; omega) (by have := HO4.out.base_le; exact HZ4.out) ?_
         intro x5 w5 HG
         have HF5 := Lib.hid (HG.out.fr HZF.out (Nat.le_refl _) HO4.out.base_le)
         have hown := HG.out.own
         rw [bitsI_append] at hown
         obtain ⟨A5, c5, hx5, hl5, hm5, hr5⟩ := hown.val
         rw [bitsI_length] at hx5 hl5
         subst hx5
         have HR5 := Lib.hid hr5
         have HS5 := Lib.hid (HS3.out.call HF5.out)
         clear HG hr5 hown)
      | (go_at_call 22
         refine (HT.out _ _ _ HR5.out).mono ?_
         rintro e w6 ⟨rfl, hf⟩
         have HS6 := Lib.hid (HS5.out.call hf)
         clear hf
         obtain ⟨y0_6, y1_6, y2_6⟩ := (BR.out.fr HS6.out).three
         obtain ⟨z0_6, z1_6, z2_6⟩ := (BR.out.fr HS6.out).frees))
    have HF := Lib.hid (((((Fr.refl w).alloc _).alloc _).alloc _).call HS6.out)
    exact bodyPost_ret (v := bv ((m + n : Nat) : Int) (joinI m u v % 2 ^ (m + n))) (by simp [results, Try.results6, go_sem, hi_zero, lo_zero, *]) rfl ⟨rfl, by repeat (first | with_reducible exact HF.out | (with_reducible refine Fr.set ?_ (by simp; try omega) _))⟩
set_option maxHeartbeats 6400000 in
set_option maxRecDepth 10000 in
theorem rbin_17no (n m : Nat) (v u : Int) (h : Norm n v) (k : Norm m u) (hnm : 128 < m + n) (w : World) :
    Calls Try.prog 6 #[.int .i64 17, bv n v, bv m u] w fun e w' => e = .returned (bv 0 0) ∧ Fr w w' := by
  have hlv := h.lt128
  have hlu := k.lt128
  obtain ⟨a1, a2, v0, v1⟩ := h
  obtain ⟨b1, b2, u0, u1⟩ := k
  rw [Int.toNat_natCast] at v1 u1
  have HN := Lib.hid (fun wx => rnormal_any n v v0 hlv wx)
  rw [norm_to ⟨a1, a2, v0, by rw [Int.toNat_natCast]; exact v1⟩] at HN
  have HM := Lib.hid (fun wx => rnormal_any m u u0 hlu wx)
  rw [norm_to ⟨b1, b2, u0, by rw [Int.toNat_natCast]; exact u1⟩] at HM
  have HO := Lib.hid (fun wx => of_b n v (by omega) wx)
  have HP := Lib.hid (fun wx => of_b m u (by omega) wx)
  obtain ⟨x1, x2, x3⟩ := box_two w (.int .i64 (n : Int)) (.int .u64 (hi v)) (.int .u64 (lo v)) (.int .i64 (m : Int)) (.int .u64 (hi u)) (.int .u64 (lo u))
  have BA := Lib.hid x1
  have BB := Lib.hid x2
  have BR := Lib.hid x3
  have HT := Lib.hid (fun A c wx => to_no A (m + n) c (by omega) (by omega) wx)
  have hq1 : n ≤ 128 := by omega
  have hq2 : m ≤ 128 := by omega
  clear x1 x2 x3 v0 v1 u0 u1 hlv hlu a1 a2 b1 b2
  go_enter Try.func6, Try.ntmps6
  go_wp2_with (first
    | (go_at_call_of 20 (hi v)
       refine (HN.out _).mono ?_
       rintro e w1 ⟨rfl, hf⟩
       have HS1 := Lib.hid hf
       obtain ⟨p0, p1, p2⟩ := (BA.out.fr HS1.out).three
       obtain ⟨q0, q1, q2⟩ := (BB.out.fr HS1.out).three
       clear hf)
    | (go_at_call_of 20 (hi u)
       refine (HM.out _).mono ?_
       rintro e w2 ⟨rfl, hf⟩
       have HS2 := Lib.hid (HS1.out.call hf)
       obtain ⟨p3, p4, p5⟩ := (BA.out.fr HS2.out).three
       obtain ⟨q3, q4, q5⟩ := (BB.out.fr HS2.out).three
       clear hf))
  go_region_held3 (fun w' => World.cell? w' ⟨w.heap.size, 0, none⟩ = some (.int .i64 (n : Int)) ∧ World.cell? w' ⟨w.heap.size, 1, none⟩ = some (.int .u64 (hi v)) ∧ World.cell? w' ⟨w.heap.size, 2, none⟩ = some (.int .u64 (lo v)) ∧ World.cell? w' ⟨w.heap.size + 1, 0, none⟩ = some (.int .i64 (m : Int)) ∧ World.cell? w' ⟨w.heap.size + 1, 1, none⟩ = some (.int .u64 (hi u)) ∧ World.cell? w' ⟨w.heap.size + 1, 2, none⟩ = some (.int .u64 (lo u))) (simp [go_sem, *])
    (first
      | (go_at_call_of 21 (hi v); refine (HO.out _).mono ?_; rintro e w3 ⟨A3, c3, rfl, ho3, hr3, hl3, hm3, hf⟩; have HO3 := Lib.hid ho3; have HR3 := Lib.hid hr3; have HS3 := Lib.hid (HS2.out.drew.call hf); obtain ⟨p6, p7, p8⟩ := (BA.out.fr HS3.out).three; obtain ⟨q6, q7, q8⟩ := (BB.out.fr HS3.out).three; clear hf ho3 hr3)
      | (go_at_call_of 21 (hi u); refine (HP.out _).mono ?_; rintro e w4 ⟨A4, c4, rfl, ho4, hr4, hl4, hm4, hf⟩; have HO4 := Lib.hid ho4; have HZF := Lib.hid hf; have HZ4 := Lib.hid hf.size; have HR4 := Lib.hid hr4; have HR34 := Lib.hid (HR3.out.fr hf); have HS4 := Lib.hid (HS3.out.call hf); obtain ⟨p9, pa, pb⟩ := (BA.out.fr HS4.out).three; obtain ⟨q9, qa, qb⟩ := (BB.out.fr HS4.out).three; obtain ⟨r9, ra, rb⟩ := (BR.out.fr HS4.out).three; obtain ⟨t9, ta, tb⟩ := (BR.out.fr HS4.out).frees; clear hf ho4 hr4))
  all_goals
    go_wp2_with (first
      | (at_builtin; refine wpList_append_rd one_bool _ rfl (.tmp 53) (.tmp 54) 41 rfl w3.heap.size 4 Try.underlying41 Try.infob rfl _ (bitsI m u) rfl HO4.out A3 n c3 (bitsI n v) rfl (bitsI_length _ _) HR34.out (by rw [bitsI_length]; unfold maxLen; omega) (by rw [bitsI_length]; omega) (by have := HO4.out.base_le; exact HZ4.out) ?_
         intro x5 w5 HG
         have HF5 := Lib.hid (HG.out.fr HZF.out (Nat.le_refl _) HO4.out.base_le)
         have hown := HG.out.own
         rw [bitsI_append] at hown
         obtain ⟨A5, c5, hx5, hl5, hm5, hr5⟩ := hown.val
         rw [bitsI_length] at hx5 hl5
         subst hx5
         have HR5 := Lib.hid hr5
         have HS5 := Lib.hid (HS3.out.call HF5.out)
         clear HG hr5 hown)
      | (go_at_call 22
         refine (HT.out _ _ _).mono ?_
         rintro e w6 ⟨rfl, hf⟩
         have HS6 := Lib.hid (HS5.out.call hf)
         clear hf
         obtain ⟨y0_6, y1_6, y2_6⟩ := (BR.out.fr HS6.out).three
         obtain ⟨z0_6, z1_6, z2_6⟩ := (BR.out.fr HS6.out).frees))
    have HF := Lib.hid (((((Fr.refl w).alloc _).alloc _).alloc _).call HS6.out)
    exact bodyPost_ret (v := bv 0 0) (by simp [results, Try.results6, go_sem, hi_zero, lo_zero, *]) rfl ⟨rfl, by repeat (first | with_reducible exact HF.out | (with_reducible refine Fr.set ?_ (by simp; try omega) _))⟩
set_option maxHeartbeats 6400000 in
set_option maxRecDepth 10000 in
theorem rbin_wide (n m : Nat) (v u : Int) (h : Norm n v) (k : Norm m u) (op : Int) (hne : ((n : Int) == (m : Int)) = false) (o7 : (op == 7) = false) (o8 : (op == 8) = false) (o9 : (op == 9) = false) (o17 : (op == 17) = false) (w : World) :
    Calls Try.prog 6 #[.int .i64 op, bv n v, bv m u] w fun e w' => e = .returned (bv 0 0) ∧ Fr w w' := by
  have hlv := h.lt128
  have hlu := k.lt128
  obtain ⟨a1, a2, v0, v1⟩ := h
  obtain ⟨b1, b2, u0, u1⟩ := k
  rw [Int.toNat_natCast] at v1 u1
  have HN := Lib.hid (fun wx => rnormal_any n v v0 hlv wx)
  rw [norm_to ⟨a1, a2, v0, by rw [Int.toNat_natCast]; exact v1⟩] at HN
  have HM := Lib.hid (fun wx => rnormal_any m u u0 hlu wx)
  rw [norm_to ⟨b1, b2, u0, by rw [Int.toNat_natCast]; exact u1⟩] at HM
  have HO := Lib.hid (fun wx => of_b n v (by omega) wx)
  have HP := Lib.hid (fun wx => of_b m u (by omega) wx)
  obtain ⟨x1, x2, x3⟩ := box_two w (.int .i64 (n : Int)) (.int .u64 (hi v)) (.int .u64 (lo v)) (.int .i64 (m : Int)) (.int .u64 (hi u)) (.int .u64 (lo u))
  have BA := Lib.hid x1
  have BB := Lib.hid x2
  have BR := Lib.hid x3
  have hne2 : ((n : Int) != (m : Int)) = true := by rw [bne_iff_ne]; exact beq_eq_false_iff_ne.1 hne
  clear x1 x2 x3 v0 v1 u0 u1 hlv hlu a1 a2 b1 b2
  go_enter Try.func6, Try.ntmps6
  go_wp2_with (first
    | (go_at_call_of 20 (hi v)
       refine (HN.out _).mono ?_
       rintro e w1 ⟨rfl, hf⟩
       have HS1 := Lib.hid hf
       obtain ⟨p0, p1, p2⟩ := (BA.out.fr HS1.out).three
       obtain ⟨q0, q1, q2⟩ := (BB.out.fr HS1.out).three
       clear hf)
    | (go_at_call_of 20 (hi u)
       refine (HM.out _).mono ?_
       rintro e w2 ⟨rfl, hf⟩
       have HS2 := Lib.hid (HS1.out.call hf)
       obtain ⟨p3, p4, p5⟩ := (BA.out.fr HS2.out).three
       obtain ⟨q3, q4, q5⟩ := (BB.out.fr HS2.out).three
       clear hf))
  go_region_held3 (fun w' => World.cell? w' ⟨w.heap.size, 0, none⟩ = some (.int .i64 (n : Int)) ∧ World.cell? w' ⟨w.heap.size, 1, none⟩ = some (.int .u64 (hi v)) ∧ World.cell? w' ⟨w.heap.size, 2, none⟩ = some (.int .u64 (lo v)) ∧ World.cell? w' ⟨w.heap.size + 1, 0, none⟩ = some (.int .i64 (m : Int)) ∧ World.cell? w' ⟨w.heap.size + 1, 1, none⟩ = some (.int .u64 (hi u)) ∧ World.cell? w' ⟨w.heap.size + 1, 2, none⟩ = some (.int .u64 (lo u))) (simp [go_sem, *])
    (first
      | (go_at_call_of 21 (hi v); refine (HO.out _).mono ?_; rintro e w3 ⟨A3, c3, rfl, ho3, hr3, hl3, hm3, hf⟩; have HO3 := Lib.hid ho3; have HR3 := Lib.hid hr3; have HS3 := Lib.hid (HS2.out.drew.call hf); obtain ⟨p6, p7, p8⟩ := (BA.out.fr HS3.out).three; obtain ⟨q6, q7, q8⟩ := (BB.out.fr HS3.out).three; clear hf ho3 hr3)
      | (go_at_call_of 21 (hi u); refine (HP.out _).mono ?_; rintro e w4 ⟨A4, c4, rfl, ho4, hr4, hl4, hm4, hf⟩; have HO4 := Lib.hid ho4; have HR4 := Lib.hid hr4; have HR34 := Lib.hid (HR3.out.fr hf); have HS4 := Lib.hid (HS3.out.call hf); obtain ⟨p9, pa, pb⟩ := (BA.out.fr HS4.out).three; obtain ⟨q9, qa, qb⟩ := (BB.out.fr HS4.out).three; obtain ⟨r9, ra, rb⟩ := (BR.out.fr HS4.out).three; obtain ⟨t9, ta, tb⟩ := (BR.out.fr HS4.out).frees; clear hf ho4 hr4))
  all_goals
    go_wp2
    have HF := Lib.hid (((((Fr.refl w).alloc _).alloc _).alloc _).call HS4.out)
    exact bodyPost_ret (v := bv 0 0) (by simp [results, Try.results6, go_sem, hi_zero, lo_zero, *]) rfl ⟨rfl, by repeat (first | with_reducible exact HF.out | (with_reducible refine Fr.set ?_ (by simp; try omega) _))⟩
set_option maxHeartbeats 6400000 in
set_option maxRecDepth 10000 in
theorem rbin_other (n : Nat) (v u : Int) (h : Norm n v) (k : Norm n u) (op : Int) (o7 : (op == 7) = false) (o8 : (op == 8) = false) (o9 : (op == 9) = false) (o17 : (op == 17) = false) (o1 : (op == 1) = false) (o2 : (op == 2) = false) (o3 : (op == 3) = false) (o4 : (op == 4) = false) (o5 : (op == 5) = false) (o6 : (op == 6) = false) (o10 : (op == 10) = false) (o11 : (op == 11) = false) (o12 : (op == 12) = false) (o13 : (op == 13) = false) (o14 : (op == 14) = false) (o15 : (op == 15) = false) (o16 : (op == 16) = false) (w : World) :
    Calls Try.prog 6 #[.int .i64 op, bv n v, bv n u] w fun e w' => e = .returned (bv 0 0) ∧ Fr w w' := by
  have hlv := h.lt128
  have hlu := k.lt128
  obtain ⟨a1, a2, v0, v1⟩ := h
  obtain ⟨b1, b2, u0, u1⟩ := k
  rw [Int.toNat_natCast] at v1 u1
  have HN := Lib.hid (fun wx => rnormal_any n v v0 hlv wx)
  rw [norm_to ⟨a1, a2, v0, by rw [Int.toNat_natCast]; exact v1⟩] at HN
  have HM := Lib.hid (fun wx => rnormal_any n u u0 hlu wx)
  rw [norm_to ⟨b1, b2, u0, by rw [Int.toNat_natCast]; exact u1⟩] at HM
  have HO := Lib.hid (fun wx => of_b n v (by omega) wx)
  have HP := Lib.hid (fun wx => of_b n u (by omega) wx)
  obtain ⟨x1, x2, x3⟩ := box_two w (.int .i64 (n : Int)) (.int .u64 (hi v)) (.int .u64 (lo v)) (.int .i64 (n : Int)) (.int .u64 (hi u)) (.int .u64 (lo u))
  have BA := Lib.hid x1
  have BB := Lib.hid x2
  have BR := Lib.hid x3
  clear x1 x2 x3 v0 v1 u0 u1 hlv hlu a1 a2 b1 b2
  go_enter Try.func6, Try.ntmps6
  go_wp2_with (first
    | (go_at_call_of 20 (hi v)
       refine (HN.out _).mono ?_
       rintro e w1 ⟨rfl, hf⟩
       have HS1 := Lib.hid hf
       obtain ⟨p0, p1, p2⟩ := (BA.out.fr HS1.out).three
       obtain ⟨q0, q1, q2⟩ := (BB.out.fr HS1.out).three
       clear hf)
    | (go_at_call_of 20 (hi u)
       refine (HM.out _).mono ?_
       rintro e w2 ⟨rfl, hf⟩
       have HS2 := Lib.hid (HS1.out.call hf)
       obtain ⟨p3, p4, p5⟩ := (BA.out.fr HS2.out).three
       obtain ⟨q3, q4, q5⟩ := (BB.out.fr HS2.out).three
       clear hf))
  go_region_held3 (fun w' => World.cell? w' ⟨w.heap.size, 0, none⟩ = some (.int .i64 (n : Int)) ∧ World.cell? w' ⟨w.heap.size, 1, none⟩ = some (.int .u64 (hi v)) ∧ World.cell? w' ⟨w.heap.size, 2, none⟩ = some (.int .u64 (lo v)) ∧ World.cell? w' ⟨w.heap.size + 1, 0, none⟩ = some (.int .i64 (n : Int)) ∧ World.cell? w' ⟨w.heap.size + 1, 1, none⟩ = some (.int .u64 (hi u)) ∧ World.cell? w' ⟨w.heap.size + 1, 2, none⟩ = some (.int .u64 (lo u))) (simp [go_sem, *])
    (first
      | (go_at_call_of 21 (hi v); refine (HO.out _).mono ?_; rintro e w3 ⟨A3, c3, rfl, ho3, hr3, hl3, hm3, hf⟩; have HO3 := Lib.hid ho3; have HR3 := Lib.hid hr3; have HS3 := Lib.hid (HS2.out.drew.call hf); obtain ⟨p6, p7, p8⟩ := (BA.out.fr HS3.out).three; obtain ⟨q6, q7, q8⟩ := (BB.out.fr HS3.out).three; clear hf ho3 hr3)
      | (go_at_call_of 21 (hi u); refine (HP.out _).mono ?_; rintro e w4 ⟨A4, c4, rfl, ho4, hr4, hl4, hm4, hf⟩; have HO4 := Lib.hid ho4; have HR4 := Lib.hid hr4; have HR34 := Lib.hid (HR3.out.fr hf); have HS4 := Lib.hid (HS3.out.call hf); obtain ⟨p9, pa, pb⟩ := (BA.out.fr HS4.out).three; obtain ⟨q9, qa, qb⟩ := (BB.out.fr HS4.out).three; obtain ⟨r9, ra, rb⟩ := (BR.out.fr HS4.out).three; obtain ⟨t9, ta, tb⟩ := (BR.out.fr HS4.out).frees; clear hf ho4 hr4))
  all_goals
    go_wp2
    have HF := Lib.hid (((((Fr.refl w).alloc _).alloc _).alloc _).call HS4.out)
    exact bodyPost_ret (v := bv 0 0) (by simp [results, Try.results6, go_sem, hi_zero, lo_zero, *]) rfl ⟨rfl, by repeat (first | with_reducible exact HF.out | (with_reducible refine Fr.set ?_ (by simp; try omega) _))⟩
set_option maxHeartbeats 6400000 in
set_option maxRecDepth 10000 in
theorem rbin_bad1 (op W v X u : Int) (v0 : 0 ≤ v) (v1 : v < 340282366920938463463374607431768211456) (h : normB W v = false) (w : World) :
    Calls Try.prog 6 #[.int .i64 op, bv W v, bv X u] w fun e w' => e = .returned (bv 0 0) ∧ Fr w w' := by
  have HN := Lib.hid (fun wx => rnormal_any W v v0 v1 wx)
  rw [h] at HN
  obtain ⟨x1, x2, x3⟩ := box_two w (.int .i64 W) (.int .u64 (hi v)) (.int .u64 (lo v)) (.int .i64 X) (.int .u64 (hi u)) (.int .u64 (lo u))
  have BA := Lib.hid x1
  have BB := Lib.hid x2
  have BR := Lib.hid x3
  clear x1 x2 x3 h v0 v1
  go_enter Try.func6, Try.ntmps6
  go_wp2_with (first
    | (go_at_call_of 20 (hi v)
       refine (HN.out _).mono ?_
       rintro e w1 ⟨rfl, hf⟩
       have HS1 := Lib.hid hf
       obtain ⟨p0, p1, p2⟩ := (BA.out.fr HS1.out).three
       obtain ⟨q0, q1, q2⟩ := (BB.out.fr HS1.out).three
       obtain ⟨r9, ra, rb⟩ := (BR.out.fr HS1.out).three
       obtain ⟨t9, ta, tb⟩ := (BR.out.fr HS1.out).frees
       clear hf))
  have HF := Lib.hid (((((Fr.refl w).alloc _).alloc _).alloc _).call HS1.out)
  exact bodyPost_ret (v := bv 0 0) (by simp [results, Try.results6, go_sem, hi_zero, lo_zero, *]) rfl ⟨rfl, by repeat (first | with_reducible exact HF.out | (with_reducible refine Fr.set ?_ (by simp; try omega) _))⟩
set_option maxHeartbeats 6400000 in
set_option maxRecDepth 10000 in
theorem rbin_bad2 (op W v X u : Int) (h0 : Norm W v) (u0 : 0 ≤ u) (u1 : u < 340282366920938463463374607431768211456) (h : normB X u = false) (w : World) :
    Calls Try.prog 6 #[.int .i64 op, bv W v, bv X u] w fun e w' => e = .returned (bv 0 0) ∧ Fr w w' := by
  have HN := Lib.hid (fun wx => rnormal_any W v h0.2.2.1 h0.lt128 wx)
  rw [norm_to h0] at HN
  have HM := Lib.hid (fun wx => rnormal_any X u u0 u1 wx)
  rw [h] at HM
  obtain ⟨x1, x2, x3⟩ := box_two w (.int .i64 W) (.int .u64 (hi v)) (.int .u64 (lo v)) (.int .i64 X) (.int .u64 (hi u)) (.int .u64 (lo u))
  have BA := Lib.hid x1
  have BB := Lib.hid x2
  have BR := Lib.hid x3
  clear x1 x2 x3 h h0
  go_enter Try.func6, Try.ntmps6
  go_wp2_with (first
    | (go_at_call_of 20 (hi v)
       refine (HN.out _).mono ?_
       rintro e w1 ⟨rfl, hf⟩
       have HS1 := Lib.hid hf
       obtain ⟨p0, p1, p2⟩ := (BA.out.fr HS1.out).three
       obtain ⟨q0, q1, q2⟩ := (BB.out.fr HS1.out).three
       obtain ⟨r9, ra, rb⟩ := (BR.out.fr HS1.out).three
       obtain ⟨t9, ta, tb⟩ := (BR.out.fr HS1.out).frees
       clear hf)
    | (go_at_call_of 20 (hi u)
       refine (HM.out _).mono ?_
       rintro e w2 ⟨rfl, hf⟩
       have HS2 := Lib.hid (HS1.out.call hf)
       obtain ⟨r9, ra, rb⟩ := (BR.out.fr HS2.out).three
       obtain ⟨t9, ta, tb⟩ := (BR.out.fr HS2.out).frees
       clear hf))
  have HF := Lib.hid (((((Fr.refl w).alloc _).alloc _).alloc _).call HS2.out)
  exact bodyPost_ret (v := bv 0 0) (by simp [results, Try.results6, go_sem, hi_zero, lo_zero, *]) rfl ⟨rfl, by repeat (first | with_reducible exact HF.out | (with_reducible refine Fr.set ?_ (by simp; try omega) _))⟩
end Go.Proofs.Ytglgbhlnfafhjaa
