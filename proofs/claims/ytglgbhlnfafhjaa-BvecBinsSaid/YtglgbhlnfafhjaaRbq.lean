/- What the document's Bin answers: comparisons. -/
import Derived.Test.YtglgbhlnfafhjaaRdd
import Derived.Test.YtglgbhlnfafhjaaRsh
import Derived.Test.YtglgbhlnfafhjaaRbw
import Derived.Deep.RegionHeld3
namespace Go.Proofs.Ytglgbhlnfafhjaa
open Go.RowKit

set_option maxHeartbeats 6400000 in
set_option maxRecDepth 10000 in
theorem rbin_14tt (n : Nat) (v u : Int) (h : Norm n v) (k : Norm n u) (e1 : (hi v == hi u) = true) (e2 : (lo v == lo u) = true) (w : World) :
    Calls Try.prog 6 #[.int .i64 14, bv n v, bv n u] w fun e w' => e = .returned (bv 1 (b01 true)) ∧ Fr w w' := by
  have hlv := h.lt128
  have hlu := k.lt128
  obtain ⟨a1, a2, v0, v1⟩ := h
  obtain ⟨b1, b2, u0, u1⟩ := k
  rw [Int.toNat_natCast] at v1 u1
  have HN := Lib.hid (fun wx => rnormal_any n v v0 hlv wx)
  rw [norm_to ⟨a1, a2, v0, by rw [Int.toNat_natCast]; exact v1⟩] at HN
  have HM := Lib.hid (fun wx => rnormal_any n u u0 hlu wx)
  rw [norm_to ⟨b1, b2, u0, by rw [Int.toNat_natCast]; exact u1⟩] at HM
  have HO := Lib.hid (fun wx => of_b n v (by omega) wx)
  have HP := Lib.hid (fun wx => of_b n u (by omega) wx)
  obtain ⟨x1, x2, x3⟩ := box_two w (.int .i64 (n : Int)) (.int .u64 (hi v)) (.int .u64 (lo v)) (.int .i64 (n : Int)) (.int .u64 (hi u)) (.int .u64 (lo u))
  have BA := Lib.hid x1
  have BB := Lib.hid x2
  have BR := Lib.hid x3
  have HT := Lib.hid (fun b wx => rtruth_any b wx)
  have e0 : ((n : Int) == (n : Int)) = true := beq_self_eq_true _
  clear x1 x2 x3 v0 v1 u0 u1 hlv hlu a1 a2 b1 b2
  go_enter Try.func6, Try.ntmps6
  go_wp2_with (first
    | (go_at_call_of 20 (hi v)
       refine (HN.out _).mono ?_
       rintro e w1 ⟨rfl, hf⟩
       have HS1 := Lib.hid hf
       obtain ⟨p0, p1, p2⟩ := (BA.out.fr HS1.out).three
       obtain ⟨q0, q1, q2⟩ := (BB.out.fr HS1.out).three
       clear hf)
    | (go_at_call_of 20 (hi u)
       refine (HM.out _).mono ?_
       rintro e w2 ⟨rfl, hf⟩
       have HS2 := Lib.hid (HS1.out.call hf)
       obtain ⟨p3, p4, p5⟩ := (BA.out.fr HS2.out).three
       obtain ⟨q3, q4, q5⟩ := (BB.out.fr HS2.out).three
       clear hf))
  go_region_held3 (fun w' => World.cell? w' ⟨w.heap.size, 0, none⟩ = some (.int .i64 (n : Int)) ∧ World.cell? w' ⟨w.heap.size, 1, none⟩ = some (.int .u64 (hi v)) ∧ World.cell? w' ⟨w.heap.size, 2, none⟩ = some (.int .u64 (lo v)) ∧ World.cell? w' ⟨w.heap.size + 1, 0, none⟩ = some (.int .i64 (n : Int)) ∧ World.cell? w' ⟨w.heap.size + 1, 1, none⟩ = some (.int .u64 (hi u)) ∧ World.cell? w' ⟨w.heap.size + 1, 2, none⟩ = some (.int .u64 (lo u))) (simp [go_sem, *])
    (first
      | (go_at_call_of 21 (hi v); refine (HO.out _).mono ?_; rintro e w3 ⟨A3, c3, rfl, ho3, hr3, hl3, hm3, hf⟩; have HO3 := Lib.hid ho3; have HR3 := Lib.hid hr3; have HS3 := Lib.hid (HS2.out.drew.call hf); obtain ⟨p6, p7, p8⟩ := (BA.out.fr HS3.out).three; obtain ⟨q6, q7, q8⟩ := (BB.out.fr HS3.out).three; clear hf ho3 hr3)
      | (go_at_call_of 21 (hi u); refine (HP.out _).mono ?_; rintro e w4 ⟨A4, c4, rfl, ho4, hr4, hl4, hm4, hf⟩; have HO4 := Lib.hid ho4; have HR4 := Lib.hid hr4; have HR34 := Lib.hid (HR3.out.fr hf); have HS4 := Lib.hid (HS3.out.call hf); obtain ⟨p9, pa, pb⟩ := (BA.out.fr HS4.out).three; obtain ⟨q9, qa, qb⟩ := (BB.out.fr HS4.out).three; obtain ⟨r9, ra, rb⟩ := (BR.out.fr HS4.out).three; obtain ⟨t9, ta, tb⟩ := (BR.out.fr HS4.out).frees; clear hf ho4 hr4))
  all_goals
    go_wp2_with (first
      | (go_at_call 29
         refine (HT.out true _).mono ?_
         rintro e w5 ⟨rfl, hf⟩
         have HS5 := Lib.hid (HS4.out.call hf)
         clear hf
         obtain ⟨y0_5, y1_5, y2_5⟩ := (BR.out.fr HS5.out).three
         obtain ⟨z0_5, z1_5, z2_5⟩ := (BR.out.fr HS5.out).frees))
    have HF := Lib.hid (((((Fr.refl w).alloc _).alloc _).alloc _).call HS5.out)
    exact bodyPost_ret (v := bv 1 (b01 true)) (by simp [results, Try.results6, go_sem, hi_zero, lo_zero, *]) rfl ⟨rfl, by repeat (first | with_reducible exact HF.out | (with_reducible refine Fr.set ?_ (by simp; try omega) _))⟩
set_option maxHeartbeats 6400000 in
set_option maxRecDepth 10000 in
theorem rbin_14tf (n : Nat) (v u : Int) (h : Norm n v) (k : Norm n u) (e1 : (hi v == hi u) = true) (e2 : (lo v == lo u) = false) (w : World) :
    Calls Try.prog 6 #[.int .i64 14, bv n v, bv n u] w fun e w' => e = .returned (bv 1 (b01 false)) ∧ Fr w w' := by
  have hlv := h.lt128
  have hlu := k.lt128
  obtain ⟨a1, a2, v0, v1⟩ := h
  obtain ⟨b1, b2, u0, u1⟩ := k
  rw [Int.toNat_natCast] at v1 u1
  have HN := Lib.hid (fun wx => rnormal_any n v v0 hlv wx)
  rw [norm_to ⟨a1, a2, v0, by rw [Int.toNat_natCast]; exact v1⟩] at HN
  have HM := Lib.hid (fun wx => rnormal_any n u u0 hlu wx)
  rw [norm_to ⟨b1, b2, u0, by rw [Int.toNat_natCast]; exact u1⟩] at HM
  have HO := Lib.hid (fun wx => of_b n v (by omega) wx)
  have HP := Lib.hid (fun wx => of_b n u (by omega) wx)
  obtain ⟨x1, x2, x3⟩ := box_two w (.int .i64 (n : Int)) (.int .u64 (hi v)) (.int .u64 (lo v)) (.int .i64 (n : Int)) (.int .u64 (hi u)) (.int .u64 (lo u))
  have BA := Lib.hid x1
  have BB := Lib.hid x2
  have BR := Lib.hid x3
  have HT := Lib.hid (fun b wx => rtruth_any b wx)
  have e0 : ((n : Int) == (n : Int)) = true := beq_self_eq_true _
  clear x1 x2 x3 v0 v1 u0 u1 hlv hlu a1 a2 b1 b2
  go_enter Try.func6, Try.ntmps6
  go_wp2_with (first
    | (go_at_call_of 20 (hi v)
       refine (HN.out _).mono ?_
       rintro e w1 ⟨rfl, hf⟩
       have HS1 := Lib.hid hf
       obtain ⟨p0, p1, p2⟩ := (BA.out.fr HS1.out).three
       obtain ⟨q0, q1, q2⟩ := (BB.out.fr HS1.out).three
       clear hf)
    | (go_at_call_of 20 (hi u)
       refine (HM.out _).mono ?_
       rintro e w2 ⟨rfl, hf⟩
       have HS2 := Lib.hid (HS1.out.call hf)
       obtain ⟨p3, p4, p5⟩ := (BA.out.fr HS2.out).three
       obtain ⟨q3, q4, q5⟩ := (BB.out.fr HS2.out).three
       clear hf))
  go_region_held3 (fun w' => World.cell? w' ⟨w.heap.size, 0, none⟩ = some (.int .i64 (n : Int)) ∧ World.cell? w' ⟨w.heap.size, 1, none⟩ = some (.int .u64 (hi v)) ∧ World.cell? w' ⟨w.heap.size, 2, none⟩ = some (.int .u64 (lo v)) ∧ World.cell? w' ⟨w.heap.size + 1, 0, none⟩ = some (.int .i64 (n : Int)) ∧ World.cell? w' ⟨w.heap.size + 1, 1, none⟩ = some (.int .u64 (hi u)) ∧ World.cell? w' ⟨w.heap.size + 1, 2, none⟩ = some (.int .u64 (lo u))) (simp [go_sem, *])
    (first
      | (go_at_call_of 21 (hi v); refine (HO.out _).mono ?_; rintro e w3 ⟨A3, c3, rfl, ho3, hr3, hl3, hm3, hf⟩; have HO3 := Lib.hid ho3; have HR3 := Lib.hid hr3; have HS3 := Lib.hid (HS2.out.drew.call hf); obtain ⟨p6, p7, p8⟩ := (BA.out.fr HS3.out).three; obtain ⟨q6, q7, q8⟩ := (BB.out.fr HS3.out).three; clear hf ho3 hr3)
      | (go_at_call_of 21 (hi u); refine (HP.out _).mono ?_; rintro e w4 ⟨A4, c4, rfl, ho4, hr4, hl4, hm4, hf⟩; have HO4 := Lib.hid ho4; have HR4 := Lib.hid hr4; have HR34 := Lib.hid (HR3.out.fr hf); have HS4 := Lib.hid (HS3.out.call hf); obtain ⟨p9, pa, pb⟩ := (BA.out.fr HS4.out).three; obtain ⟨q9, qa, qb⟩ := (BB.out.fr HS4.out).three; obtain ⟨r9, ra, rb⟩ := (BR.out.fr HS4.out).three; obtain ⟨t9, ta, tb⟩ := (BR.out.fr HS4.out).frees; clear hf ho4 hr4))
  all_goals
    go_wp2_with (first
      | (go_at_call 29
         refine (HT.out false _).mono ?_
         rintro e w5 ⟨rfl, hf⟩
         have HS5 := Lib.hid (HS4.out.call hf)
         clear hf
         obtain ⟨y0_5, y1_5, y2_5⟩ := (BR.out.fr HS5.out).three
         obtain ⟨z0_5, z1_5, z2_5⟩ := (BR.out.fr HS5.out).frees))
    have HF := Lib.hid (((((Fr.refl w).alloc _).alloc _).alloc _).call HS5.out)
    exact bodyPost_ret (v := bv 1 (b01 false)) (by simp [results, Try.results6, go_sem, hi_zero, lo_zero, *]) rfl ⟨rfl, by repeat (first | with_reducible exact HF.out | (with_reducible refine Fr.set ?_ (by simp; try omega) _))⟩
set_option maxHeartbeats 6400000 in
set_option maxRecDepth 10000 in
theorem rbin_14ff (n : Nat) (v u : Int) (h : Norm n v) (k : Norm n u) (e1 : (hi v == hi u) = false) (w : World) :
    Calls Try.prog 6 #[.int .i64 14, bv n v, bv n u] w fun e w' => e = .returned (bv 1 (b01 false)) ∧ Fr w w' := by
  have hlv := h.lt128
  have hlu := k.lt128
  obtain ⟨a1, a2, v0, v1⟩ := h
  obtain ⟨b1, b2, u0, u1⟩ := k
  rw [Int.toNat_natCast] at v1 u1
  have HN := Lib.hid (fun wx => rnormal_any n v v0 hlv wx)
  rw [norm_to ⟨a1, a2, v0, by rw [Int.toNat_natCast]; exact v1⟩] at HN
  have HM := Lib.hid (fun wx => rnormal_any n u u0 hlu wx)
  rw [norm_to ⟨b1, b2, u0, by rw [Int.toNat_natCast]; exact u1⟩] at HM
  have HO := Lib.hid (fun wx => of_b n v (by omega) wx)
  have HP := Lib.hid (fun wx => of_b n u (by omega) wx)
  obtain ⟨x1, x2, x3⟩ := box_two w (.int .i64 (n : Int)) (.int .u64 (hi v)) (.int .u64 (lo v)) (.int .i64 (n : Int)) (.int .u64 (hi u)) (.int .u64 (lo u))
  have BA := Lib.hid x1
  have BB := Lib.hid x2
  have BR := Lib.hid x3
  have HT := Lib.hid (fun b wx => rtruth_any b wx)
  have e0 : ((n : Int) == (n : Int)) = true := beq_self_eq_true _
  clear x1 x2 x3 v0 v1 u0 u1 hlv hlu a1 a2 b1 b2
  go_enter Try.func6, Try.ntmps6
  go_wp2_with (first
    | (go_at_call_of 20 (hi v)
       refine (HN.out _).mono ?_
       rintro e w1 ⟨rfl, hf⟩
       have HS1 := Lib.hid hf
       obtain ⟨p0, p1, p2⟩ := (BA.out.fr HS1.out).three
       obtain ⟨q0, q1, q2⟩ := (BB.out.fr HS1.out).three
       clear hf)
    | (go_at_call_of 20 (hi u)
       refine (HM.out _).mono ?_
       rintro e w2 ⟨rfl, hf⟩
       have HS2 := Lib.hid (HS1.out.call hf)
       obtain ⟨p3, p4, p5⟩ := (BA.out.fr HS2.out).three
       obtain ⟨q3, q4, q5⟩ := (BB.out.fr HS2.out).three
       clear hf))
  go_region_held3 (fun w' => World.cell? w' ⟨w.heap.size, 0, none⟩ = some (.int .i64 (n : Int)) ∧ World.cell? w' ⟨w.heap.size, 1, none⟩ = some (.int .u64 (hi v)) ∧ World.cell? w' ⟨w.heap.size, 2, none⟩ = some (.int .u64 (lo v)) ∧ World.cell? w' ⟨w.heap.size + 1, 0, none⟩ = some (.int .i64 (n : Int)) ∧ World.cell? w' ⟨w.heap.size + 1, 1, none⟩ = some (.int .u64 (hi u)) ∧ World.cell? w' ⟨w.heap.size + 1, 2, none⟩ = some (.int .u64 (lo u))) (simp [go_sem, *])
    (first
      | (go_at_call_of 21 (hi v); refine (HO.out _).mono ?_; rintro e w3 ⟨A3, c3, rfl, ho3, hr3, hl3, hm3, hf⟩; have HO3 := Lib.hid ho3; have HR3 := Lib.hid hr3; have HS3 := Lib.hid (HS2.out.drew.call hf); obtain ⟨p6, p7, p8⟩ := (BA.out.fr HS3.out).three; obtain ⟨q6, q7, q8⟩ := (BB.out.fr HS3.out).three; clear hf ho3 hr3)
      | (go_at_call_of 21 (hi u); refine (HP.out _).mono ?_; rintro e w4 ⟨A4, c4, rfl, ho4, hr4, hl4, hm4, hf⟩; have HO4 := Lib.hid ho4; have HR4 := Lib.hid hr4; have HR34 := Lib.hid (HR3.out.fr hf); have HS4 := Lib.hid (HS3.out.call hf); obtain ⟨p9, pa, pb⟩ := (BA.out.fr HS4.out).three; obtain ⟨q9, qa, qb⟩ := (BB.out.fr HS4.out).three; obtain ⟨r9, ra, rb⟩ := (BR.out.fr HS4.out).three; obtain ⟨t9, ta, tb⟩ := (BR.out.fr HS4.out).frees; clear hf ho4 hr4))
  all_goals
    go_wp2_with (first
      | (go_at_call 29
         refine (HT.out false _).mono ?_
         rintro e w5 ⟨rfl, hf⟩
         have HS5 := Lib.hid (HS4.out.call hf)
         clear hf
         obtain ⟨y0_5, y1_5, y2_5⟩ := (BR.out.fr HS5.out).three
         obtain ⟨z0_5, z1_5, z2_5⟩ := (BR.out.fr HS5.out).frees))
    have HF := Lib.hid (((((Fr.refl w).alloc _).alloc _).alloc _).call HS5.out)
    exact bodyPost_ret (v := bv 1 (b01 false)) (by simp [results, Try.results6, go_sem, hi_zero, lo_zero, *]) rfl ⟨rfl, by repeat (first | with_reducible exact HF.out | (with_reducible refine Fr.set ?_ (by simp; try omega) _))⟩
set_option maxHeartbeats 6400000 in
set_option maxRecDepth 10000 in
theorem rbin_15 (n : Nat) (v u : Int) (h : Norm n v) (k : Norm n u) (w : World) :
    Calls Try.prog 6 #[.int .i64 15, bv n v, bv n u] w fun e w' => e = .returned (bv 1 (b01 (decide (v < u)))) ∧ Fr w w' := by
  have hlv := h.lt128
  have hlu := k.lt128
  obtain ⟨a1, a2, v0, v1⟩ := h
  obtain ⟨b1, b2, u0, u1⟩ := k
  rw [Int.toNat_natCast] at v1 u1
  have HN := Lib.hid (fun wx => rnormal_any n v v0 hlv wx)
  rw [norm_to ⟨a1, a2, v0, by rw [Int.toNat_natCast]; exact v1⟩] at HN
  have HM := Lib.hid (fun wx => rnormal_any n u u0 hlu wx)
  rw [norm_to ⟨b1, b2, u0, by rw [Int.toNat_natCast]; exact u1⟩] at HM
  have HO := Lib.hid (fun wx => of_b n v (by omega) wx)
  have HP := Lib.hid (fun wx => of_b n u (by omega) wx)
  obtain ⟨x1, x2, x3⟩ := box_two w (.int .i64 (n : Int)) (.int .u64 (hi v)) (.int .u64 (lo v)) (.int .i64 (n : Int)) (.int .u64 (hi u)) (.int .u64 (lo u))
  have BA := Lib.hid x1
  have BB := Lib.hid x2
  have BR := Lib.hid x3
  have HT := Lib.hid (fun b wx => rtruth_any b wx)
  have HI := Lib.hid (fun A B c d wx ha hb => rless_any A B n c d v u (by omega) wx ha hb)
  rw [Int.emod_eq_of_lt v0 v1, Int.emod_eq_of_lt u0 u1] at HI
  generalize hlb : decide (v < u) = lb at *
  clear hlb
  clear x1 x2 x3 v0 v1 u0 u1 hlv hlu a1 a2 b1 b2
  go_enter Try.func6, Try.ntmps6
  go_wp2_with (first
    | (go_at_call_of 20 (hi v)
       refine (HN.out _).mono ?_
       rintro e w1 ⟨rfl, hf⟩
       have HS1 := Lib.hid hf
       obtain ⟨p0, p1, p2⟩ := (BA.out.fr HS1.out).three
       obtain ⟨q0, q1, q2⟩ := (BB.out.fr HS1.out).three
       clear hf)
    | (go_at_call_of 20 (hi u)
       refine (HM.out _).mono ?_
       rintro e w2 ⟨rfl, hf⟩
       have HS2 := Lib.hid (HS1.out.call hf)
       obtain ⟨p3, p4, p5⟩ := (BA.out.fr HS2.out).three
       obtain ⟨q3, q4, q5⟩ := (BB.out.fr HS2.out).three
       clear hf))
  go_region_held3 (fun w' => World.cell? w' ⟨w.heap.size, 0, none⟩ = some (.int .i64 (n : Int)) ∧ World.cell? w' ⟨w.heap.size, 1, none⟩ = some (.int .u64 (hi v)) ∧ World.cell? w' ⟨w.heap.size, 2, none⟩ = some (.int .u64 (lo v)) ∧ World.cell? w' ⟨w.heap.size + 1, 0, none⟩ = some (.int .i64 (n : Int)) ∧ World.cell? w' ⟨w.heap.size + 1, 1, none⟩ = some (.int .u64 (hi u)) ∧ World.cell? w' ⟨w.heap.size + 1, 2, none⟩ = some (.int .u64 (lo u))) (simp [go_sem, *])
    (first
      | (go_at_call_of 21 (hi v); refine (HO.out _).mono ?_; rintro e w3 ⟨A3, c3, rfl, ho3, hr3, hl3, hm3, hf⟩; have HO3 := Lib.hid ho3; have HR3 := Lib.hid hr3; have HS3 := Lib.hid (HS2.out.drew.call hf); obtain ⟨p6, p7, p8⟩ := (BA.out.fr HS3.out).three; obtain ⟨q6, q7, q8⟩ := (BB.out.fr HS3.out).three; clear hf ho3 hr3)
      | (go_at_call_of 21 (hi u); refine (HP.out _).mono ?_; rintro e w4 ⟨A4, c4, rfl, ho4, hr4, hl4, hm4, hf⟩; have HO4 := Lib.hid ho4; have HR4 := Lib.hid hr4; have HR34 := Lib.hid (HR3.out.fr hf); have HS4 := Lib.hid (HS3.out.call hf); obtain ⟨p9, pa, pb⟩ := (BA.out.fr HS4.out).three; obtain ⟨q9, qa, qb⟩ := (BB.out.fr HS4.out).three; obtain ⟨r9, ra, rb⟩ := (BR.out.fr HS4.out).three; obtain ⟨t9, ta, tb⟩ := (BR.out.fr HS4.out).frees; clear hf ho4 hr4))
  all_goals
    go_wp2_with (first
      | (go_at_call 30
         refine (HI.out _ _ _ _ _ HR34.out HR4.out).mono ?_
         rintro e w5 ⟨rfl, hf⟩
         have HS5 := Lib.hid (HS4.out.call hf)
         clear hf
         obtain ⟨s0_5, s1_5, s2_5⟩ := (BA.out.fr HS5.out).three)
      | (go_at_call 29
         refine (HT.out _ _).mono ?_
         rintro e w6 ⟨rfl, hf⟩
         have HS6 := Lib.hid (HS5.out.call hf)
         clear hf
         obtain ⟨y0_6, y1_6, y2_6⟩ := (BR.out.fr HS6.out).three
         obtain ⟨z0_6, z1_6, z2_6⟩ := (BR.out.fr HS6.out).frees))
    have HF := Lib.hid (((((Fr.refl w).alloc _).alloc _).alloc _).call HS6.out)
    exact bodyPost_ret (v := bv 1 (b01 lb)) (by simp [results, Try.results6, go_sem, hi_zero, lo_zero, *]) rfl ⟨rfl, by repeat (first | with_reducible exact HF.out | (with_reducible refine Fr.set ?_ (by simp; try omega) _))⟩
set_option maxHeartbeats 6400000 in
set_option maxRecDepth 10000 in
theorem rbin_16ff (n : Nat) (v u : Int) (h : Norm n v) (k : Norm n u) (hsa : bitI v (n - 1) = false) (hsb : bitI u (n - 1) = false) (w : World) :
    Calls Try.prog 6 #[.int .i64 16, bv n v, bv n u] w fun e w' => e = .returned (bv 1 (b01 (decide (v < u)))) ∧ Fr w w' := by
  have hlv := h.lt128
  have hlu := k.lt128
  obtain ⟨a1, a2, v0, v1⟩ := h
  obtain ⟨b1, b2, u0, u1⟩ := k
  rw [Int.toNat_natCast] at v1 u1
  have HN := Lib.hid (fun wx => rnormal_any n v v0 hlv wx)
  rw [norm_to ⟨a1, a2, v0, by rw [Int.toNat_natCast]; exact v1⟩] at HN
  have HM := Lib.hid (fun wx => rnormal_any n u u0 hlu wx)
  rw [norm_to ⟨b1, b2, u0, by rw [Int.toNat_natCast]; exact u1⟩] at HM
  have HO := Lib.hid (fun wx => of_b n v (by omega) wx)
  have HP := Lib.hid (fun wx => of_b n u (by omega) wx)
  obtain ⟨x1, x2, x3⟩ := box_two w (.int .i64 (n : Int)) (.int .u64 (hi v)) (.int .u64 (lo v)) (.int .i64 (n : Int)) (.int .u64 (hi u)) (.int .u64 (lo u))
  have BA := Lib.hid x1
  have BB := Lib.hid x2
  have BR := Lib.hid x3
  have HT := Lib.hid (fun b wx => rtruth_any b wx)
  have HGA := Lib.hid (fun A c wx hr => sign_any A n c v (by omega) (by omega) wx hr)
  rw [hsa] at HGA
  have HGB := Lib.hid (fun A c wx hr => sign_any A n c u (by omega) (by omega) wx hr)
  rw [hsb] at HGB
  have HI := Lib.hid (fun A B c d wx ha hb => rless_any A B n c d v u (by omega) wx ha hb)
  rw [Int.emod_eq_of_lt v0 v1, Int.emod_eq_of_lt u0 u1] at HI
  generalize hlb : decide (v < u) = lb at *
  clear hlb
  clear hsa hsb
  clear x1 x2 x3 v0 v1 u0 u1 hlv hlu a1 a2 b1 b2
  go_enter Try.func6, Try.ntmps6
  go_wp2_with (first
    | (go_at_call_of 20 (hi v)
       refine (HN.out _).mono ?_
       rintro e w1 ⟨rfl, hf⟩
       have HS1 := Lib.hid hf
       obtain ⟨p0, p1, p2⟩ := (BA.out.fr HS1.out).three
       obtain ⟨q0, q1, q2⟩ := (BB.out.fr HS1.out).three
       clear hf)
    | (go_at_call_of 20 (hi u)
       refine (HM.out _).mono ?_
       rintro e w2 ⟨rfl, hf⟩
       have HS2 := Lib.hid (HS1.out.call hf)
       obtain ⟨p3, p4, p5⟩ := (BA.out.fr HS2.out).three
       obtain ⟨q3, q4, q5⟩ := (BB.out.fr HS2.out).three
       clear hf))
  go_region_held3 (fun w' => World.cell? w' ⟨w.heap.size, 0, none⟩ = some (.int .i64 (n : Int)) ∧ World.cell? w' ⟨w.heap.size, 1, none⟩ = some (.int .u64 (hi v)) ∧ World.cell? w' ⟨w.heap.size, 2, none⟩ = some (.int .u64 (lo v)) ∧ World.cell? w' ⟨w.heap.size + 1, 0, none⟩ = some (.int .i64 (n : Int)) ∧ World.cell? w' ⟨w.heap.size + 1, 1, none⟩ = some (.int .u64 (hi u)) ∧ World.cell? w' ⟨w.heap.size + 1, 2, none⟩ = some (.int .u64 (lo u))) (simp [go_sem, *])
    (first
      | (go_at_call_of 21 (hi v); refine (HO.out _).mono ?_; rintro e w3 ⟨A3, c3, rfl, ho3, hr3, hl3, hm3, hf⟩; have HO3 := Lib.hid ho3; have HR3 := Lib.hid hr3; have HS3 := Lib.hid (HS2.out.drew.call hf); obtain ⟨p6, p7, p8⟩ := (BA.out.fr HS3.out).three; obtain ⟨q6, q7, q8⟩ := (BB.out.fr HS3.out).three; clear hf ho3 hr3)
      | (go_at_call_of 21 (hi u); refine (HP.out _).mono ?_; rintro e w4 ⟨A4, c4, rfl, ho4, hr4, hl4, hm4, hf⟩; have HO4 := Lib.hid ho4; have HR4 := Lib.hid hr4; have HR34 := Lib.hid (HR3.out.fr hf); have HS4 := Lib.hid (HS3.out.call hf); obtain ⟨p9, pa, pb⟩ := (BA.out.fr HS4.out).three; obtain ⟨q9, qa, qb⟩ := (BB.out.fr HS4.out).three; obtain ⟨r9, ra, rb⟩ := (BR.out.fr HS4.out).three; obtain ⟨t9, ta, tb⟩ := (BR.out.fr HS4.out).frees; clear hf ho4 hr4))
  all_goals
    go_wp2_with (first
      | (go_at_call_of 31 A3
         refine (HGA.out _ _ _ HR34.out).mono ?_
         rintro e wy ⟨rfl, rfl⟩)
      | (go_at_call_of 31 A4
         refine (HGB.out _ _ _ HR4.out).mono ?_
         rintro e wy ⟨rfl, rfl⟩)
      | (go_at_call 30
         refine (HI.out _ _ _ _ _ HR34.out HR4.out).mono ?_
         rintro e w5 ⟨rfl, hf⟩
         have HS5 := Lib.hid (HS4.out.call hf)
         clear hf
         obtain ⟨s0_5, s1_5, s2_5⟩ := (BA.out.fr HS5.out).three)
      | (go_at_call 29
         refine (HT.out _ _).mono ?_
         rintro e w6 ⟨rfl, hf⟩
         have HS6 := Lib.hid (HS5.out.call hf)
         clear hf
         obtain ⟨y0_6, y1_6, y2_6⟩ := (BR.out.fr HS6.out).three
         obtain ⟨z0_6, z1_6, z2_6⟩ := (BR.out.fr HS6.out).frees))
    have HF := Lib.hid (((((Fr.refl w).alloc _).alloc _).alloc _).call HS6.out)
    exact bodyPost_ret (v := bv 1 (b01 lb)) (by simp [results, Try.results6, go_sem, hi_zero, lo_zero, *]) rfl ⟨rfl, by repeat (first | with_reducible exact HF.out | (with_reducible refine Fr.set ?_ (by simp; try omega) _))⟩
set_option maxHeartbeats 6400000 in
set_option maxRecDepth 10000 in
theorem rbin_16ft (n : Nat) (v u : Int) (h : Norm n v) (k : Norm n u) (hsa : bitI v (n - 1) = false) (hsb : bitI u (n - 1) = true) (w : World) :
    Calls Try.prog 6 #[.int .i64 16, bv n v, bv n u] w fun e w' => e = .returned (bv 1 (b01 false)) ∧ Fr w w' := by
  have hlv := h.lt128
  have hlu := k.lt128
  obtain ⟨a1, a2, v0, v1⟩ := h
  obtain ⟨b1, b2, u0, u1⟩ := k
  rw [Int.toNat_natCast] at v1 u1
  have HN := Lib.hid (fun wx => rnormal_any n v v0 hlv wx)
  rw [norm_to ⟨a1, a2, v0, by rw [Int.toNat_natCast]; exact v1⟩] at HN
  have HM := Lib.hid (fun wx => rnormal_any n u u0 hlu wx)
  rw [norm_to ⟨b1, b2, u0, by rw [Int.toNat_natCast]; exact u1⟩] at HM
  have HO := Lib.hid (fun wx => of_b n v (by omega) wx)
  have HP := Lib.hid (fun wx => of_b n u (by omega) wx)
  obtain ⟨x1, x2, x3⟩ := box_two w (.int .i64 (n : Int)) (.int .u64 (hi v)) (.int .u64 (lo v)) (.int .i64 (n : Int)) (.int .u64 (hi u)) (.int .u64 (lo u))
  have BA := Lib.hid x1
  have BB := Lib.hid x2
  have BR := Lib.hid x3
  have HT := Lib.hid (fun b wx => rtruth_any b wx)
  have HGA := Lib.hid (fun A c wx hr => sign_any A n c v (by omega) (by omega) wx hr)
  rw [hsa] at HGA
  have HGB := Lib.hid (fun A c wx hr => sign_any A n c u (by omega) (by omega) wx hr)
  rw [hsb] at HGB
  clear hsa hsb
  clear x1 x2 x3 v0 v1 u0 u1 hlv hlu a1 a2 b1 b2
  go_enter Try.func6, Try.ntmps6
  go_wp2_with (first
    | (go_at_call_of 20 (hi v)
       refine (HN.out _).mono ?_
       rintro e w1 ⟨rfl, hf⟩
       have HS1 := Lib.hid hf
       obtain ⟨p0, p1, p2⟩ := (BA.out.fr HS1.out).three
       obtain ⟨q0, q1, q2⟩ := (BB.out.fr HS1.out).three
       clear hf)
    | (go_at_call_of 20 (hi u)
       refine (HM.out _).mono ?_
       rintro e w2 ⟨rfl, hf⟩
       have HS2 := Lib.hid (HS1.out.call hf)
       obtain ⟨p3, p4, p5⟩ := (BA.out.fr HS2.out).three
       obtain ⟨q3, q4, q5⟩ := (BB.out.fr HS2.out).three
       clear hf))
  go_region_held3 (fun w' => World.cell? w' ⟨w.heap.size, 0, none⟩ = some (.int .i64 (n : Int)) ∧ World.cell? w' ⟨w.heap.size, 1, none⟩ = some (.int .u64 (hi v)) ∧ World.cell? w' ⟨w.heap.size, 2, none⟩ = some (.int .u64 (lo v)) ∧ World.cell? w' ⟨w.heap.size + 1, 0, none⟩ = some (.int .i64 (n : Int)) ∧ World.cell? w' ⟨w.heap.size + 1, 1, none⟩ = some (.int .u64 (hi u)) ∧ World.cell? w' ⟨w.heap.size + 1, 2, none⟩ = some (.int .u64 (lo u))) (simp [go_sem, *])
    (first
      | (go_at_call_of 21 (hi v); refine (HO.out _).mono ?_; rintro e w3 ⟨A3, c3, rfl, ho3, hr3, hl3, hm3, hf⟩; have HO3 := Lib.hid ho3; have HR3 := Lib.hid hr3; have HS3 := Lib.hid (HS2.out.drew.call hf); obtain ⟨p6, p7, p8⟩ := (BA.out.fr HS3.out).three; obtain ⟨q6, q7, q8⟩ := (BB.out.fr HS3.out).three; clear hf ho3 hr3)
      | (go_at_call_of 21 (hi u); refine (HP.out _).mono ?_; rintro e w4 ⟨A4, c4, rfl, ho4, hr4, hl4, hm4, hf⟩; have HO4 := Lib.hid ho4; have HR4 := Lib.hid hr4; have HR34 := Lib.hid (HR3.out.fr hf); have HS4 := Lib.hid (HS3.out.call hf); obtain ⟨p9, pa, pb⟩ := (BA.out.fr HS4.out).three; obtain ⟨q9, qa, qb⟩ := (BB.out.fr HS4.out).three; obtain ⟨r9, ra, rb⟩ := (BR.out.fr HS4.out).three; obtain ⟨t9, ta, tb⟩ := (BR.out.fr HS4.out).frees; clear hf ho4 hr4))
  all_goals
    go_wp2_with (first
      | (go_at_call_of 31 A3
         refine (HGA.out _ _ _ HR34.out).mono ?_
         rintro e wy ⟨rfl, rfl⟩)
      | (go_at_call_of 31 A4
         refine (HGB.out _ _ _ HR4.out).mono ?_
         rintro e wy ⟨rfl, rfl⟩)
      | (go_at_call 29
         refine (HT.out false _).mono ?_
         rintro e w5 ⟨rfl, hf⟩
         have HS5 := Lib.hid (HS4.out.call hf)
         clear hf
         obtain ⟨y0_5, y1_5, y2_5⟩ := (BR.out.fr HS5.out).three
         obtain ⟨z0_5, z1_5, z2_5⟩ := (BR.out.fr HS5.out).frees))
    have HF := Lib.hid (((((Fr.refl w).alloc _).alloc _).alloc _).call HS5.out)
    exact bodyPost_ret (v := bv 1 (b01 false)) (by simp [results, Try.results6, go_sem, hi_zero, lo_zero, *]) rfl ⟨rfl, by repeat (first | with_reducible exact HF.out | (with_reducible refine Fr.set ?_ (by simp; try omega) _))⟩
set_option maxHeartbeats 6400000 in
set_option maxRecDepth 10000 in
theorem rbin_16tf (n : Nat) (v u : Int) (h : Norm n v) (k : Norm n u) (hsa : bitI v (n - 1) = true) (hsb : bitI u (n - 1) = false) (w : World) :
    Calls Try.prog 6 #[.int .i64 16, bv n v, bv n u] w fun e w' => e = .returned (bv 1 (b01 true)) ∧ Fr w w' := by
  have hlv := h.lt128
  have hlu := k.lt128
  obtain ⟨a1, a2, v0, v1⟩ := h
  obtain ⟨b1, b2, u0, u1⟩ := k
  rw [Int.toNat_natCast] at v1 u1
  have HN := Lib.hid (fun wx => rnormal_any n v v0 hlv wx)
  rw [norm_to ⟨a1, a2, v0, by rw [Int.toNat_natCast]; exact v1⟩] at HN
  have HM := Lib.hid (fun wx => rnormal_any n u u0 hlu wx)
  rw [norm_to ⟨b1, b2, u0, by rw [Int.toNat_natCast]; exact u1⟩] at HM
  have HO := Lib.hid (fun wx => of_b n v (by omega) wx)
  have HP := Lib.hid (fun wx => of_b n u (by omega) wx)
  obtain ⟨x1, x2, x3⟩ := box_two w (.int .i64 (n : Int)) (.int .u64 (hi v)) (.int .u64 (lo v)) (.int .i64 (n : Int)) (.int .u64 (hi u)) (.int .u64 (lo u))
  have BA := Lib.hid x1
  have BB := Lib.hid x2
  have BR := Lib.hid x3
  have HT := Lib.hid (fun b wx => rtruth_any b wx)
  have HGA := Lib.hid (fun A c wx hr => sign_any A n c v (by omega) (by omega) wx hr)
  rw [hsa] at HGA
  have HGB := Lib.hid (fun A c wx hr => sign_any A n c u (by omega) (by omega) wx hr)
  rw [hsb] at HGB
  clear hsa hsb
  clear x1 x2 x3 v0 v1 u0 u1 hlv hlu a1 a2 b1 b2
  go_enter Try.func6, Try.ntmps6
  go_wp2_with (first
    | (go_at_call_of 20 (hi v)
       refine (HN.out _).mono ?_
       rintro e w1 ⟨rfl, hf⟩
       have HS1 := Lib.hid hf
       obtain ⟨p0, p1, p2⟩ := (BA.out.fr HS1.out).three
       obtain ⟨q0, q1, q2⟩ := (BB.out.fr HS1.out).three
       clear hf)
    | (go_at_call_of 20 (hi u)
       refine (HM.out _).mono ?_
       rintro e w2 ⟨rfl, hf⟩
       have HS2 := Lib.hid (HS1.out.call hf)
       obtain ⟨p3, p4, p5⟩ := (BA.out.fr HS2.out).three
       obtain ⟨q3, q4, q5⟩ := (BB.out.fr HS2.out).three
       clear hf))
  go_region_held3 (fun w' => World.cell? w' ⟨w.heap.size, 0, none⟩ = some (.int .i64 (n : Int)) ∧ World.cell? w' ⟨w.heap.size, 1, none⟩ = some (.int .u64 (hi v)) ∧ World.cell? w' ⟨w.heap.size, 2, none⟩ = some (.int .u64 (lo v)) ∧ World.cell? w' ⟨w.heap.size + 1, 0, none⟩ = some (.int .i64 (n : Int)) ∧ World.cell? w' ⟨w.heap.size + 1, 1, none⟩ = some (.int .u64 (hi u)) ∧ World.cell? w' ⟨w.heap.size + 1, 2, none⟩ = some (.int .u64 (lo u))) (simp [go_sem, *])
    (first
      | (go_at_call_of 21 (hi v); refine (HO.out _).mono ?_; rintro e w3 ⟨A3, c3, rfl, ho3, hr3, hl3, hm3, hf⟩; have HO3 := Lib.hid ho3; have HR3 := Lib.hid hr3; have HS3 := Lib.hid (HS2.out.drew.call hf); obtain ⟨p6, p7, p8⟩ := (BA.out.fr HS3.out).three; obtain ⟨q6, q7, q8⟩ := (BB.out.fr HS3.out).three; clear hf ho3 hr3)
      | (go_at_call_of 21 (hi u); refine (HP.out _).mono ?_; rintro e w4 ⟨A4, c4, rfl, ho4, hr4, hl4, hm4, hf⟩; have HO4 := Lib.hid ho4; have HR4 := Lib.hid hr4; have HR34 := Lib.hid (HR3.out.fr hf); have HS4 := Lib.hid (HS3.out.call hf); obtain ⟨p9, pa, pb⟩ := (BA.out.fr HS4.out).three; obtain ⟨q9, qa, qb⟩ := (BB.out.fr HS4.out).three; obtain ⟨r9, ra, rb⟩ := (BR.out.fr HS4.out).three; obtain ⟨t9, ta, tb⟩ := (BR.out.fr HS4.out).frees; clear hf ho4 hr4))
  all_goals
    go_wp2_with (first
      | (go_at_call_of 31 A3
         refine (HGA.out _ _ _ HR34.out).mono ?_
         rintro e wy ⟨rfl, rfl⟩)
      | (go_at_call_of 31 A4
         refine (HGB.out _ _ _ HR4.out).mono ?_
         rintro e wy ⟨rfl, rfl⟩)
      | (go_at_call 29
         refine (HT.out true _).mono ?_
         rintro e w5 ⟨rfl, hf⟩
         have HS5 := Lib.hid (HS4.out.call hf)
         clear hf
         obtain ⟨y0_5, y1_5, y2_5⟩ := (BR.out.fr HS5.out).three
         obtain ⟨z0_5, z1_5, z2_5⟩ := (BR.out.fr HS5.out).frees))
    have HF := Lib.hid (((((Fr.refl w).alloc _).alloc _).alloc _).call HS5.out)
    exact bodyPost_ret (v := bv 1 (b01 true)) (by simp [results, Try.results6, go_sem, hi_zero, lo_zero, *]) rfl ⟨rfl, by repeat (first | with_reducible exact HF.out | (with_reducible refine Fr.set ?_ (by simp; try omega) _))⟩
set_option maxHeartbeats 6400000 in
set_option maxRecDepth 10000 in
theorem rbin_16tt (n : Nat) (v u : Int) (h : Norm n v) (k : Norm n u) (hsa : bitI v (n - 1) = true) (hsb : bitI u (n - 1) = true) (w : World) :
    Calls Try.prog 6 #[.int .i64 16, bv n v, bv n u] w fun e w' => e = .returned (bv 1 (b01 (decide (v < u)))) ∧ Fr w w' := by
  have hlv := h.lt128
  have hlu := k.lt128
  obtain ⟨a1, a2, v0, v1⟩ := h
  obtain ⟨b1, b2, u0, u1⟩ := k
  rw [Int.toNat_natCast] at v1 u1
  have HN := Lib.hid (fun wx => rnormal_any n v v0 hlv wx)
  rw [norm_to ⟨a1, a2, v0, by rw [Int.toNat_natCast]; exact v1⟩] at HN
  have HM := Lib.hid (fun wx => rnormal_any n u u0 hlu wx)
  rw [norm_to ⟨b1, b2, u0, by rw [Int.toNat_natCast]; exact u1⟩] at HM
  have HO := Lib.hid (fun wx => of_b n v (by omega) wx)
  have HP := Lib.hid (fun wx => of_b n u (by omega) wx)
  obtain ⟨x1, x2, x3⟩ := box_two w (.int .i64 (n : Int)) (.int .u64 (hi v)) (.int .u64 (lo v)) (.int .i64 (n : Int)) (.int .u64 (hi u)) (.int .u64 (lo u))
  have BA := Lib.hid x1
  have BB := Lib.hid x2
  have BR := Lib.hid x3
  have HT := Lib.hid (fun b wx => rtruth_any b wx)
  have HGA := Lib.hid (fun A c wx hr => sign_any A n c v (by omega) (by omega) wx hr)
  rw [hsa] at HGA
  have HGB := Lib.hid (fun A c wx hr => sign_any A n c u (by omega) (by omega) wx hr)
  rw [hsb] at HGB
  have HI := Lib.hid (fun A B c d wx ha hb => rless_any A B n c d v u (by omega) wx ha hb)
  rw [Int.emod_eq_of_lt v0 v1, Int.emod_eq_of_lt u0 u1] at HI
  generalize hlb : decide (v < u) = lb at *
  clear hlb
  clear hsa hsb
  clear x1 x2 x3 v0 v1 u0 u1 hlv hlu a1 a2 b1 b2
  go_enter Try.func6, Try.ntmps6
  go_wp2_with (first
    | (go_at_call_of 20 (hi v)
       refine (HN.out _).mono ?_
       rintro e w1 ⟨rfl, hf⟩
       have HS1 := Lib.hid hf
       obtain ⟨p0, p1, p2⟩ := (BA.out.fr HS1.out).three
       obtain ⟨q0, q1, q2⟩ := (BB.out.fr HS1.out).three
       clear hf)
    | (go_at_call_of 20 (hi u)
       refine (HM.out _).mono ?_
       rintro e w2 ⟨rfl, hf⟩
       have HS2 := Lib.hid (HS1.out.call hf)
       obtain ⟨p3, p4, p5⟩ := (BA.out.fr HS2.out).three
       obtain ⟨q3, q4, q5⟩ := (BB.out.fr HS2.out).three
       clear hf))
  go_region_held3 (fun w' => World.cell? w' ⟨w.heap.size, 0, none⟩ = some (.int .i64 (n : Int)) ∧ World.cell? w' ⟨w.heap.size, 1, none⟩ = some (.int .u64 (hi v)) ∧ World.cell? w' ⟨w.heap.size, 2, none⟩ = some (.int .u64 (lo v)) ∧ World.cell? w' ⟨w.heap.size + 1, 0, none⟩ = some (.int .i64 (n : Int)) ∧ World.cell? w' ⟨w.heap.size + 1, 1, none⟩ = some (.int .u64 (hi u)) ∧ World.cell? w' ⟨w.heap.size + 1, 2, none⟩ = some (.int .u64 (lo u))) (simp [go_sem, *])
    (first
      | (go_at_call_of 21 (hi v); refine (HO.out _).mono ?_; rintro e w3 ⟨A3, c3, rfl, ho3, hr3, hl3, hm3, hf⟩; have HO3 := Lib.hid ho3; have HR3 := Lib.hid hr3; have HS3 := Lib.hid (HS2.out.drew.call hf); obtain ⟨p6, p7, p8⟩ := (BA.out.fr HS3.out).three; obtain ⟨q6, q7, q8⟩ := (BB.out.fr HS3.out).three; clear hf ho3 hr3)
      | (go_at_call_of 21 (hi u); refine (HP.out _).mono ?_; rintro e w4 ⟨A4, c4, rfl, ho4, hr4, hl4, hm4, hf⟩; have HO4 := Lib.hid ho4; have HR4 := Lib.hid hr4; have HR34 := Lib.hid (HR3.out.fr hf); have HS4 := Lib.hid (HS3.out.call hf); obtain ⟨p9, pa, pb⟩ := (BA.out.fr HS4.out).three; obtain ⟨q9, qa, qb⟩ := (BB.out.fr HS4.out).three; obtain ⟨r9, ra, rb⟩ := (BR.out.fr HS4.out).three; obtain ⟨t9, ta, tb⟩ := (BR.out.fr HS4.out).frees; clear hf ho4 hr4))
  all_goals
    go_wp2_with (first
      | (go_at_call_of 31 A3
         refine (HGA.out _ _ _ HR34.out).mono ?_
         rintro e wy ⟨rfl, rfl⟩)
      | (go_at_call_of 31 A4
         refine (HGB.out _ _ _ HR4.out).mono ?_
         rintro e wy ⟨rfl, rfl⟩)
      | (go_at_call 30
         refine (HI.out _ _ _ _ _ HR34.out HR4.out).mono ?_
         rintro e w5 ⟨rfl, hf⟩
         have HS5 := Lib.hid (HS4.out.call hf)
         clear hf
         obtain ⟨s0_5, s1_5, s2_5⟩ := (BA.out.fr HS5.out).three)
      | (go_at_call 29
         refine (HT.out _ _).mono ?_
         rintro e w6 ⟨rfl, hf⟩
         have HS6 := Lib.hid (HS5.out.call hf)
         clear hf
         obtain ⟨y0_6, y1_6, y2_6⟩ := (BR.out.fr HS6.out).three
         obtain ⟨z0_6, z1_6, z2_6⟩ := (BR.out.fr HS6.out).frees))
    have HF := Lib.hid (((((Fr.refl w).alloc _).alloc _).alloc _).call HS6.out)
    exact bodyPost_ret (v := bv 1 (b01 lb)) (by simp [results, Try.results6, go_sem, hi_zero, lo_zero, *]) rfl ⟨rfl, by repeat (first | with_reducible exact HF.out | (with_reducible refine Fr.set ?_ (by simp; try omega) _))⟩
end Go.Proofs.Ytglgbhlnfafhjaa
