/- Sums and products modulo a power of two, in any order. -/
import Derived.Test.YtpibkhkhbjeoiaaGk
namespace Go.Proofs.Ytpibkhkhbjeoiaa
open Go.RowKit

/-- What bvecAlive answers. -/
def AliveC : Prop := ∀ w : World, Calls Try.prog 13 #[] w fun e w' => e = .returned (.bool true) ∧ Fr w w'
theorem cut_add_l (n : Nat) (a b : Int) : cutI n (cutI n a + b) = cutI n (a + b) := by unfold cutI; rw [Int.add_emod, Int.emod_emod_of_dvd _ (Int.dvd_refl _), ← Int.add_emod]
theorem cut_add_r (n : Nat) (a b : Int) : cutI n (a + cutI n b) = cutI n (a + b) := by rw [Int.add_comm, cut_add_l, Int.add_comm]
theorem cut_sub_l (n : Nat) (a b : Int) : cutI n (cutI n a - b) = cutI n (a - b) := by unfold cutI; rw [Int.sub_emod, Int.emod_emod_of_dvd _ (Int.dvd_refl _), ← Int.sub_emod]
theorem cut_mul_l (n : Nat) (a b : Int) : cutI n (cutI n a * b) = cutI n (a * b) := by unfold cutI; rw [Int.mul_emod, Int.emod_emod_of_dvd _ (Int.dvd_refl _), ← Int.mul_emod]
theorem cut_mul_r (n : Nat) (a b : Int) : cutI n (a * cutI n b) = cutI n (a * b) := by rw [Int.mul_comm, cut_mul_l, Int.mul_comm]
theorem beq_hi {a b : Int} (h : a = b) : (hi a == hi b) = true ∧ (lo a == lo b) = true := by rw [h]; exact ⟨beq_self_eq_true _, beq_self_eq_true _⟩
theorem ring_facts (n : Nat) (v u x : Int) (v0 : 0 ≤ v) (v1 : v < 2 ^ n) :
    cutI n (v + u) = cutI n (u + v) ∧ cutI n (cutI n (v + u) + x) = cutI n (v + cutI n (u + x)) ∧ cutI n (v * u) = cutI n (u * v) ∧ cutI n (v * cutI n (u + x)) = cutI n (cutI n (v * u) + cutI n (v * x)) ∧ cutI n (cutI n (v + u) - u) = v ∧ cutI n (v + cutI n (-v)) = 0 := by
  refine ⟨by rw [Int.add_comm], ?_, by rw [Int.mul_comm], ?_, ?_, ?_⟩
  · rw [cut_add_l, cut_add_r, Int.add_assoc]
  · rw [cut_mul_r, cut_add_l, cut_add_r, Int.mul_add]
  · rw [cut_sub_l, Int.add_sub_cancel, cutI_small _ _ v0 v1]
  · rw [cut_add_r, Int.add_right_neg]; unfold cutI; exact Int.zero_emod _
end Go.Proofs.Ytpibkhkhbjeoiaa
