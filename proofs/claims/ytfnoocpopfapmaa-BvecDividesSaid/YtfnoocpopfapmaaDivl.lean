/- BvecDivides: what a quotient and its rest are, and the walk for any two. -/
import Derived.Test.YtfnoocpopfapmaaDivg
import Derived.Test.YtfnoocpopfapmaaDivz
namespace Go.Proofs.Ytfnoocpopfapmaa
open Go.RowKit

theorem cut_chain (n : Nat) (q t r : Int) : cutI n (cutI n (cutI n q * cutI n t) + cutI n r) = cutI n (q * t + r) := by
  unfold cutI
  rw [← Int.mul_emod, ← Int.add_emod]
theorem div_walk (W v X u : Int) (v0 : 0 ≤ v) (v1 : v < 340282366920938463463374607431768211456) (u0 : 0 ≤ u) (u1 : u < 340282366920938463463374607431768211456) (w : World) :
    Calls Try.prog 7 #[bv W v, bv X u] w fun e w' => e = .returned (.bool true) ∧ Fr w w' := by
  cases hb : normB W v
  · exact div_bad W v X u v0 v1 u0 u1 hb w
  have h := norm_of v0 hb
  cases hc : normB X u
  · exact div_bad2 W v X u h u0 u1 false hc (fun w => bin_bad2 10 W v X u h u0 u1 hc w) (fun e => by simp at e) w
  have k := norm_of u0 hc
  cases hne : W == X
  · exact div_bad2 W v X u h u0 u1 true hc (fun w => bin_wide 10 W v X u h k hne (by decide) (by decide) (by decide) (by decide) w) (fun _ => hne) w
  obtain rfl : W = X := beq_iff_eq.1 hne
  by_cases hu : u = 0
  · subst hu
    exact div_z W v 0 h k _ (fun w => fromInt_ok W (-1) h.1 h.2.1 (by decide) (by decide) w) (fun w => bin10_zero W v h k w) (fun w => bin11_zero W v h k w) (fun w => bin12_zero W v h k w) (fun w => bin13_zero W v h k w) (by decide) (by decide) w
  · have nA := norm_cut h.1 h.2.1 (v / u)
    have nB := norm_cut h.1 h.2.1 (v % u)
    have nC := norm_cut h.1 h.2.1 (sq (sgnI W v) (sgnI W u))
    have nD := norm_cut h.1 h.2.1 (sr (sgnI W v) (sgnI W u))
    have nM := norm_cut h.1 h.2.1 (cutI W.toNat (v / u) * u)
    have nN := norm_cut h.1 h.2.1 (cutI W.toNat (sq (sgnI W v) (sgnI W u)) * u)
    have e1 : cutI W.toNat (cutI W.toNat (cutI W.toNat (v / u) * u) + cutI W.toNat (v % u)) = v := by
      have := cut_chain W.toNat (v / u) u (v % u)
      rw [cut_id k, show v / u * u + v % u = v by rw [Int.mul_comm]; exact Int.mul_ediv_add_emod v u, cut_id h] at this
      exact this
    have e2 : cutI W.toNat (cutI W.toNat (cutI W.toNat (sq (sgnI W v) (sgnI W u)) * u) + cutI W.toNat (sr (sgnI W v) (sgnI W u))) = v := by
      have := cut_chain W.toNat (sq (sgnI W v) (sgnI W u)) (sgnI W u) (sr (sgnI W v) (sgnI W u))
      rw [cut_of_sgn k, sq_sr (sgnI_bd h).1 (sgnI_bd h).2 (sgnI_bd k).1 (sgnI_bd k).2, cut_of_sgn h] at this
      exact this
    have hr0 : 0 ≤ v % u := Int.emod_nonneg _ hu
    have hr1 : v % u < u := Int.emod_lt_of_pos _ (by omega)
    have eB : cutI W.toNat (v % u) = v % u := cutI_small _ _ hr0 (by have := k.2.2.2; omega)
    refine div_nz W v u h k _ _ _ _ _ _ _ _ (fun w => bin10_any W v u h k hu w) (fun w => bin11_any W v u h k hu w) (fun w => bin12_any W v u h k hu w) (fun w => bin13_any W v u h k hu w)
      (fun w => bin_mul W _ u nA k w) (fun w => bin_mul W _ u nC k w)
      (fun w => by have := bin_add W _ _ nM nB w; rw [e1] at this; exact this) (fun w => by have := bin_add W _ _ nN nD w; rw [e2] at this; exact this)
      (fun w => bin_15 W _ u nB k w) ?_ (nonzero_words u0 u1 hu) w
    rw [eB, ltB_small _ _ hr0 (by omega) u0 u1, decide_eq_true hr1]
    decide
end Go.Proofs.Ytfnoocpopfapmaa
