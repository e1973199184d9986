/- What Bin answers for the four divisions. -/
import Derived.Test.YtglgbhlnfafhjaaQuw
import Derived.Test.YtglgbhlnfafhjaaGj
import Derived.Test.YtglgbhlnfafhjaaGt
import Derived.Test.YtglgbhlnfafhjaaRst
import Derived.Test.YtglgbhlnfafhjaaGda
import Derived.Test.YtglgbhlnfafhjaaGg
namespace Go.Proofs.Ytglgbhlnfafhjaa
open Go.RowKit

set_option maxHeartbeats 3200000 in
set_option maxRecDepth 10000 in
theorem ds_Z (fl : Bool) (W a b z : Int) (hz : (hi b == 0) = true) (hz2 : (lo b == 0) = true) (hd : ∀ w : World, Calls Try.prog 14 #[.bool fl, .int .i64 W, wv a, wv b] w fun e w' => e = .returned (bv W z) ∧ Fr w w') (w : World) :
    Calls Try.prog 15 #[.bool fl, .int .i64 W, wv a, wv b] w fun e w' => e = .returned (bv W z) ∧ Fr w w' := by
  have HD := Lib.hid hd
  clear hd
  have k1 := Bk.new w 33 #[.int .u64 (hi a), .int .u64 (lo a)]
  have k2 := Bk.new (w.alloc (.cells #[.int .u64 (hi a), .int .u64 (lo a)] 33)) 33 #[.int .u64 (hi b), .int .u64 (lo b)]
  have k3 := Bk.new ((w.alloc (.cells #[.int .u64 (hi a), .int .u64 (lo a)] 33)).alloc (.cells #[.int .u64 (hi b), .int .u64 (lo b)] 33)) 24 #[.int .i64 0, .int .u64 0, .int .u64 0]
  rw [show ((w.alloc (.cells #[.int .u64 (hi a), .int .u64 (lo a)] 33)).alloc (.cells #[.int .u64 (hi b), .int .u64 (lo b)] 33)).heap.size = w.heap.size + 1 + 1 by simp] at k3
  have B3 := Lib.hid k3
  clear k1 k2 k3
  go_enter Try.func15, Try.ntmps15
  go_wp2_with fail
  refine (HD.out _).mono ?_
  rintro e w1 ⟨rfl, hf⟩
  have HS1 := Lib.hid hf
  obtain ⟨r0, r1, r2⟩ := (B3.out.fr hf).three
  obtain ⟨t0, t1, t2⟩ := (B3.out.fr hf).frees
  clear hf
  go_wp2
  have HF := Lib.hid (((((Fr.refl w).alloc _).alloc _).alloc _).call HS1.out)
  exact bodyPost_ret (v := bv W z) (by simp [results, Try.results15, go_sem, *]) rfl ⟨rfl, by repeat (first | with_reducible exact HF.out | (with_reducible refine Fr.set ?_ (by simp; try omega) _))⟩
/-- Signed quotient and rest, as numbers. -/
def sq (s t : Int) : Int := dsI true s t (absI s / absI t) (absI s % absI t)
def sr (s t : Int) : Int := dsI false s t (absI s / absI t) (absI s % absI t)
theorem negB_iff {a : Int} (h0 : -170141183460469231731687303715884105728 ≤ a) (h1 : a < 170141183460469231731687303715884105728) : negB a = decide (a < 0) := by
  unfold negB hi
  exact decide_eq_decide.2 (by omega)
theorem absI_eq {a : Int} (h0 : -170141183460469231731687303715884105728 ≤ a) (h1 : a < 170141183460469231731687303715884105728) : absI a = if a < 0 then -a else a := by
  unfold absI
  rw [negB_iff h0 h1]
  by_cases h : a < 0 <;> simp [h]
theorem sq_sr {s t : Int} (s0 : -170141183460469231731687303715884105728 ≤ s) (s1 : s < 170141183460469231731687303715884105728) (t0 : -170141183460469231731687303715884105728 ≤ t) (t1 : t < 170141183460469231731687303715884105728) : sq s t * t + sr s t = s := by
  unfold sq sr dsI
  have h := Int.mul_ediv_add_emod (absI s) (absI t)
  generalize absI s / absI t = Q at *
  generalize absI s % absI t = R at *
  rw [absI_eq s0 s1, absI_eq t0 t1] at h
  rw [negB_iff s0 s1, negB_iff t0 t1]
  have e1 : t * Q = Q * t := Int.mul_comm _ _
  have e2 : -t * Q = -(t * Q) := Int.neg_mul _ _
  have e3 : -Q * t = -(Q * t) := Int.neg_mul _ _
  by_cases hs : s < 0
  · rw [if_pos hs] at h
    by_cases ht : t < 0
    · rw [if_pos ht, e2, e1] at h
      simp only [hs, ht, decide_true, bne_self_eq_false, if_true, if_false, Bool.false_eq_true]
      omega
    · rw [if_neg ht, e1] at h
      simp only [hs, ht, decide_true, decide_false, if_true]
      simp
      omega
  · rw [if_neg hs] at h
    by_cases ht : t < 0
    · rw [if_pos ht, e2, e1] at h
      simp only [hs, ht, decide_true, decide_false, if_true]
      simp
      omega
    · rw [if_neg ht, e1] at h
      simp only [hs, ht, decide_false, bne_self_eq_false, if_true, if_false, Bool.false_eq_true]
      omega
theorem absI_range {a : Int} (h0 : -170141183460469231731687303715884105728 ≤ a) (h1 : a < 170141183460469231731687303715884105728) : 0 ≤ absI a ∧ absI a < 340282366920938463463374607431768211456 := by
  rw [absI_eq h0 h1]; split <;> omega
theorem cut_id {W v : Int} (h : Norm W v) : cutI W.toNat v = v := cutI_small _ _ h.2.2.1 h.2.2.2
theorem nonzero_words {u : Int} (u0 : 0 ≤ u) (u1 : u < 340282366920938463463374607431768211456) (hu : u ≠ 0) : ((hi u == 0) = true ∧ (lo u == 0) = false) ∨ (hi u == 0) = false := by
  by_cases h : hi u = 0
  · refine .inl ⟨beq_iff_eq.2 h, beq_eq_false_iff_ne.2 fun k => hu ?_⟩
    have := hilo_mod u
    rw [mod128_small u u0 u1, h, k] at this
    omega
  · exact .inr (beq_eq_false_iff_ne.2 h)
theorem bin10_any (W v u : Int) (h : Norm W v) (k : Norm W u) (hu : u ≠ 0) (w : World) : Calls Try.prog 5 #[.int .i64 10, bv W v, bv W u] w fun e w' => e = .returned (bv W (cutI W.toNat (v / u))) ∧ Fr w w' := by
  have hv := h.lt128
  have hw := k.lt128
  have hq := fun w => quoRem_any v u (by rw [mod128_small u k.2.2.1 hw]; exact hu) w
  rw [mod128_small v h.2.2.1 hv, mod128_small u k.2.2.1 hw] at hq
  refine bin_10 W v u _ h k (fun w => ?_) w
  rcases nonzero_words k.2.2.1 hw hu with ⟨e1, e2⟩ | e1
  · exact divide_qB W v u h.1 h.2.1 e1 e2 _ _ hq w
  · exact divide_qA W v u h.1 h.2.1 e1 _ _ hq w
theorem bin11_any (W v u : Int) (h : Norm W v) (k : Norm W u) (hu : u ≠ 0) (w : World) : Calls Try.prog 5 #[.int .i64 11, bv W v, bv W u] w fun e w' => e = .returned (bv W (cutI W.toNat (v % u))) ∧ Fr w w' := by
  have hv := h.lt128
  have hw := k.lt128
  have hq := fun w => quoRem_any v u (by rw [mod128_small u k.2.2.1 hw]; exact hu) w
  rw [mod128_small v h.2.2.1 hv, mod128_small u k.2.2.1 hw] at hq
  refine bin_11 W v u _ h k (fun w => ?_) w
  rcases nonzero_words k.2.2.1 hw hu with ⟨e1, e2⟩ | e1
  · exact divide_rB W v u h.1 h.2.1 e1 e2 _ _ hq w
  · exact divide_rA W v u h.1 h.2.1 e1 _ _ hq w
theorem bin10_zero (W v : Int) (h : Norm W v) (k : Norm W 0) (w : World) : Calls Try.prog 5 #[.int .i64 10, bv W v, bv W 0] w fun e w' => e = .returned (bv W (cutI W.toNat (-1))) ∧ Fr w w' := by
  refine bin_10 W v 0 _ h k (fun w => ?_) w
  have hd := divide_q0 W v 0 h.1 h.2.1 (by decide) (by decide) w
  have e : cutI W.toNat (2 ^ W.toNat - 1) = cutI W.toNat (-1) := by
    unfold cutI
    rw [show (2 : Int) ^ W.toNat - 1 = -1 + 2 ^ W.toNat * 1 by omega, Int.add_mul_emod_self_left]
  rw [e] at hd
  exact hd
theorem bin11_zero (W v : Int) (h : Norm W v) (k : Norm W 0) (w : World) : Calls Try.prog 5 #[.int .i64 11, bv W v, bv W 0] w fun e w' => e = .returned (bv W v) ∧ Fr w w' := by
  refine bin_11 W v 0 _ h k (fun w => ?_) w
  have hd := divide_r0 W v 0 h.1 h.2.1 (by decide) (by decide) w
  rw [cut_id h] at hd
  exact hd
theorem sgn_zero {W : Int} (_k : Norm W 0) : sgnI W 0 = 0 := by
  unfold sgnI; rw [if_pos (by have := pow_pos' (W.toNat - 1); omega)]
theorem sgn_ne {W u : Int} (k : Norm W u) (hu : u ≠ 0) : sgnI W u ≠ 0 := by
  obtain ⟨k1, k2, k3, k4⟩ := k
  unfold sgnI
  split <;> omega
theorem cut_of_sgn {W v : Int} (h : Norm W v) : cutI W.toNat (sgnI W v) = v := by
  have hc := cut_id h
  unfold sgnI
  split
  · exact hc
  · unfold cutI at *
    rw [show v - 2 ^ W.toNat = v + 2 ^ W.toNat * (-1) by omega, Int.add_mul_emod_self_left]
    exact hc
theorem abs_words {W u : Int} (k : Norm W u) (hu : u ≠ 0) : absI (sgnI W u) % 340282366920938463463374607431768211456 ≠ 0 := by
  obtain ⟨s0, s1⟩ := sgnI_bd k
  obtain ⟨r0, r1⟩ := absI_range s0 s1
  have hn := sgn_ne k hu
  rw [mod128_small _ r0 r1, absI_eq s0 s1]
  split <;> omega
theorem sgn_words {W u : Int} (k : Norm W u) (hu : u ≠ 0) : ((hi (sgnI W u) == 0) = true ∧ (lo (sgnI W u) == 0) = false) ∨ (hi (sgnI W u) == 0) = false := by
  obtain ⟨s0, s1⟩ := sgnI_bd k
  have hn := sgn_ne k hu
  by_cases h : hi (sgnI W u) = 0
  · refine .inl ⟨beq_iff_eq.2 h, beq_eq_false_iff_ne.2 fun e => hn ?_⟩
    unfold hi lo at *
    omega
  · exact .inr (beq_eq_false_iff_ne.2 h)
theorem binS_any (fl : Bool) (W v u : Int) (h : Norm W v) (k : Norm W u) (hu : u ≠ 0) (w : World) : Calls Try.prog 15 #[.bool fl, .int .i64 W, wv (sgnI W v), wv (sgnI W u)] w fun e w' => e = .returned (bv W (cutI W.toNat (dsI fl (sgnI W v) (sgnI W u) (absI (sgnI W v) / absI (sgnI W u)) (absI (sgnI W v) % absI (sgnI W u))))) ∧ Fr w w' := by
  have hq := fun w => quoRem_any (absI (sgnI W v)) (absI (sgnI W u)) (abs_words k hu) w
  obtain ⟨a0, a1⟩ := absI_range (sgnI_bd h).1 (sgnI_bd h).2
  obtain ⟨b0, b1⟩ := absI_range (sgnI_bd k).1 (sgnI_bd k).2
  rw [mod128_small _ a0 a1, mod128_small _ b0 b1] at hq
  rcases sgn_words k hu with ⟨e1, e2⟩ | e1
  · exact ds_B fl W _ _ h.1 h.2.1 e1 e2 _ _ hq w
  · exact ds_A fl W _ _ h.1 h.2.1 e1 _ _ hq w
theorem bin12_any (W v u : Int) (h : Norm W v) (k : Norm W u) (hu : u ≠ 0) (w : World) : Calls Try.prog 5 #[.int .i64 12, bv W v, bv W u] w fun e w' => e = .returned (bv W (cutI W.toNat (sq (sgnI W v) (sgnI W u)))) ∧ Fr w w' :=
  bin_12 W v u _ h k (fun w => binS_any true W v u h k hu w) w
theorem bin13_any (W v u : Int) (h : Norm W v) (k : Norm W u) (hu : u ≠ 0) (w : World) : Calls Try.prog 5 #[.int .i64 13, bv W v, bv W u] w fun e w' => e = .returned (bv W (cutI W.toNat (sr (sgnI W v) (sgnI W u)))) ∧ Fr w w' :=
  bin_13 W v u _ h k (fun w => binS_any false W v u h k hu w) w
theorem bin12_zero (W v : Int) (h : Norm W v) (k : Norm W 0) (w : World) : Calls Try.prog 5 #[.int .i64 12, bv W v, bv W 0] w fun e w' => e = .returned (bv W (cutI W.toNat (-1))) ∧ Fr w w' := by
  refine bin_12 W v 0 _ h k (fun w => ?_) w
  rw [sgn_zero k]
  refine ds_Z true W _ 0 _ (by decide) (by decide) (fun w => ?_) w
  have hd := divide_q0 W (sgnI W v) 0 h.1 h.2.1 (by decide) (by decide) w
  have e : cutI W.toNat (2 ^ W.toNat - 1) = cutI W.toNat (-1) := by
    unfold cutI
    rw [show (2 : Int) ^ W.toNat - 1 = -1 + 2 ^ W.toNat * 1 by omega, Int.add_mul_emod_self_left]
  rw [e] at hd
  exact hd
theorem bin13_zero (W v : Int) (h : Norm W v) (k : Norm W 0) (w : World) : Calls Try.prog 5 #[.int .i64 13, bv W v, bv W 0] w fun e w' => e = .returned (bv W v) ∧ Fr w w' := by
  refine bin_13 W v 0 _ h k (fun w => ?_) w
  rw [sgn_zero k]
  refine ds_Z false W _ 0 _ (by decide) (by decide) (fun w => ?_) w
  have hd := divide_r0 W (sgnI W v) 0 h.1 h.2.1 (by decide) (by decide) w
  rw [cut_of_sgn h] at hd
  exact hd
end Go.Proofs.Ytglgbhlnfafhjaa
