/- The document's Insert where it answers nothing. -/
import Derived.Test.YtfnoocpopfapmaaRins
namespace Go.Proofs.Ytfnoocpopfapmaa
open Go.RowKit

set_option maxHeartbeats 3200000 in
set_option maxRecDepth 10000 in
theorem rinsert_bad1 (W v y X u : Int) (v0 : 0 ≤ v) (v1 : v < 340282366920938463463374607431768211456) (h : normB W v = false) (w : World) :
    Calls Try.prog 18 #[bv W v, .int .i64 y, bv X u] w fun e w' => e = .returned (bv 0 0) ∧ Fr w w' := by
  have HN := Lib.hid (fun wx => rnormal_any W v v0 v1 wx)
  rw [h] at HN
  obtain ⟨x1, x2, x3⟩ := box_two w (.int .i64 W) (.int .u64 (hi v)) (.int .u64 (lo v)) (.int .i64 X) (.int .u64 (hi u)) (.int .u64 (lo u))
  have BA := Lib.hid x1
  have BB := Lib.hid x2
  have BR := Lib.hid x3
  clear x1 x2 x3
  clear v0 v1 h
  go_enter Try.func18, Try.ntmps18
  go_wp2_with (first
    | (go_at_call 14
       refine (HN.out _).mono ?_
       rintro e w1 ⟨rfl, hf⟩
       have HS1 := Lib.hid (hf)
       clear hf
       obtain ⟨ba0_1, ba1_1, ba2_1⟩ := (BA.out.fr HS1.out).three
       obtain ⟨bb0_1, bb1_1, bb2_1⟩ := (BB.out.fr HS1.out).three
       obtain ⟨br0_1, br1_1, br2_1⟩ := (BR.out.fr HS1.out).three
       obtain ⟨brf0_1, brf1_1, brf2_1⟩ := (BR.out.fr HS1.out).frees))
  have HF := Lib.hid (((((Fr.refl w).alloc _).alloc _).alloc _).call HS1.out)
  exact bodyPost_ret (v := bv 0 0) (by simp [results, Try.results18, go_sem, hi_zero, lo_zero, *]) rfl ⟨rfl, by repeat (first | with_reducible exact HF.out | (with_reducible refine Fr.set ?_ (by simp; try omega) _))⟩
set_option maxHeartbeats 3200000 in
set_option maxRecDepth 10000 in
theorem rinsert_bad2 (W v y X u : Int) (h : Norm W v) (u0 : 0 ≤ u) (u1 : u < 340282366920938463463374607431768211456) (k : normB X u = false) (w : World) :
    Calls Try.prog 18 #[bv W v, .int .i64 y, bv X u] w fun e w' => e = .returned (bv 0 0) ∧ Fr w w' := by
  have hlv := h.lt128
  have HN := Lib.hid (fun wx => rnormal_any W v h.2.2.1 hlv wx)
  rw [norm_to h] at HN
  have HM := Lib.hid (fun wx => rnormal_any X u u0 u1 wx)
  rw [k] at HM
  clear u0 u1 k
  obtain ⟨x1, x2, x3⟩ := box_two w (.int .i64 W) (.int .u64 (hi v)) (.int .u64 (lo v)) (.int .i64 X) (.int .u64 (hi u)) (.int .u64 (lo u))
  have BA := Lib.hid x1
  have BB := Lib.hid x2
  have BR := Lib.hid x3
  clear x1 x2 x3
  clear hlv h
  go_enter Try.func18, Try.ntmps18
  go_wp2_with fail
  refine (HN.out _).mono ?_
  rintro e w1 ⟨rfl, hf⟩
  have HS1 := Lib.hid hf
  obtain ⟨p0, p1, p2⟩ := (BA.out.fr hf).three
  obtain ⟨q0, q1, q2⟩ := (BB.out.fr hf).three
  clear hf
  go_wp2_with fail
  refine (HM.out _).mono ?_
  rintro e w2 ⟨rfl, hf⟩
  have HS2 := Lib.hid (HS1.out.call hf)
  obtain ⟨p3, p4, p5⟩ := (BA.out.fr HS2.out).three
  obtain ⟨q3, q4, q5⟩ := (BB.out.fr HS2.out).three
  obtain ⟨r0, r1, r2⟩ := (BR.out.fr HS2.out).three
  obtain ⟨t0, t1, t2⟩ := (BR.out.fr HS2.out).frees
  clear hf
  go_wp2
  have HF := Lib.hid (((((Fr.refl w).alloc _).alloc _).alloc _).call HS2.out)
  exact bodyPost_ret (v := bv 0 0) (by simp [results, Try.results18, go_sem, hi_zero, lo_zero, *]) rfl ⟨rfl, by repeat (first | with_reducible exact HF.out | (with_reducible refine Fr.set ?_ (by simp; try omega) _))⟩
set_option maxHeartbeats 3200000 in
set_option maxRecDepth 10000 in
theorem rinsert_lo (W v y X u : Int) (h : Norm W v) (k : Norm X u) (h0 : y < 0) (w : World) :
    Calls Try.prog 18 #[bv W v, .int .i64 y, bv X u] w fun e w' => e = .returned (bv 0 0) ∧ Fr w w' := by
  have hlv := h.lt128
  have HN := Lib.hid (fun wx => rnormal_any W v h.2.2.1 hlv wx)
  rw [norm_to h] at HN
  have HM := Lib.hid (fun wx => rnormal_any X u k.2.2.1 k.lt128 wx)
  rw [norm_to k] at HM
  have b1 := h.1
  have b2 := h.2.1
  have b3 := k.1
  have b4 := k.2.1
  clear k
  obtain ⟨x1, x2, x3⟩ := box_two w (.int .i64 W) (.int .u64 (hi v)) (.int .u64 (lo v)) (.int .i64 X) (.int .u64 (hi u)) (.int .u64 (lo u))
  have BA := Lib.hid x1
  have BB := Lib.hid x2
  have BR := Lib.hid x3
  clear x1 x2 x3
  clear hlv h
  go_enter Try.func18, Try.ntmps18
  go_wp2_with fail
  refine (HN.out _).mono ?_
  rintro e w1 ⟨rfl, hf⟩
  have HS1 := Lib.hid hf
  obtain ⟨p0, p1, p2⟩ := (BA.out.fr hf).three
  obtain ⟨q0, q1, q2⟩ := (BB.out.fr hf).three
  clear hf
  go_wp2_with fail
  refine (HM.out _).mono ?_
  rintro e w2 ⟨rfl, hf⟩
  have HS2 := Lib.hid (HS1.out.call hf)
  obtain ⟨p3, p4, p5⟩ := (BA.out.fr HS2.out).three
  obtain ⟨q3, q4, q5⟩ := (BB.out.fr HS2.out).three
  obtain ⟨r0, r1, r2⟩ := (BR.out.fr HS2.out).three
  obtain ⟨t0, t1, t2⟩ := (BR.out.fr HS2.out).frees
  clear hf
  go_wp2
  have HF := Lib.hid (((((Fr.refl w).alloc _).alloc _).alloc _).call HS2.out)
  exact bodyPost_ret (v := bv 0 0) (by simp [results, Try.results18, go_sem, hi_zero, lo_zero, *]) rfl ⟨rfl, by repeat (first | with_reducible exact HF.out | (with_reducible refine Fr.set ?_ (by simp; try omega) _))⟩
set_option maxHeartbeats 3200000 in
set_option maxRecDepth 10000 in
theorem rinsert_hi (W v y X u : Int) (h : Norm W v) (k : Norm X u) (h00 : 0 ≤ y) (h0 : W - X < y) (w : World) :
    Calls Try.prog 18 #[bv W v, .int .i64 y, bv X u] w fun e w' => e = .returned (bv 0 0) ∧ Fr w w' := by
  have hlv := h.lt128
  have HN := Lib.hid (fun wx => rnormal_any W v h.2.2.1 hlv wx)
  rw [norm_to h] at HN
  have HM := Lib.hid (fun wx => rnormal_any X u k.2.2.1 k.lt128 wx)
  rw [norm_to k] at HM
  have b1 := h.1
  have b2 := h.2.1
  have b3 := k.1
  have b4 := k.2.1
  clear k
  obtain ⟨x1, x2, x3⟩ := box_two w (.int .i64 W) (.int .u64 (hi v)) (.int .u64 (lo v)) (.int .i64 X) (.int .u64 (hi u)) (.int .u64 (lo u))
  have BA := Lib.hid x1
  have BB := Lib.hid x2
  have BR := Lib.hid x3
  clear x1 x2 x3
  clear hlv h
  go_enter Try.func18, Try.ntmps18
  go_wp2_with fail
  refine (HN.out _).mono ?_
  rintro e w1 ⟨rfl, hf⟩
  have HS1 := Lib.hid hf
  obtain ⟨p0, p1, p2⟩ := (BA.out.fr hf).three
  obtain ⟨q0, q1, q2⟩ := (BB.out.fr hf).three
  clear hf
  go_wp2_with fail
  refine (HM.out _).mono ?_
  rintro e w2 ⟨rfl, hf⟩
  have HS2 := Lib.hid (HS1.out.call hf)
  obtain ⟨p3, p4, p5⟩ := (BA.out.fr HS2.out).three
  obtain ⟨q3, q4, q5⟩ := (BB.out.fr HS2.out).three
  obtain ⟨r0, r1, r2⟩ := (BR.out.fr HS2.out).three
  obtain ⟨t0, t1, t2⟩ := (BR.out.fr HS2.out).frees
  clear hf
  go_wp2
  have HF := Lib.hid (((((Fr.refl w).alloc _).alloc _).alloc _).call HS2.out)
  exact bodyPost_ret (v := bv 0 0) (by simp [results, Try.results18, go_sem, hi_zero, lo_zero, *]) rfl ⟨rfl, by repeat (first | with_reducible exact HF.out | (with_reducible refine Fr.set ?_ (by simp; try omega) _))⟩
end Go.Proofs.Ytfnoocpopfapmaa
