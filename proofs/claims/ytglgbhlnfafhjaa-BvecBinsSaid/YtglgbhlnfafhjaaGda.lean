/- Plain arithmetic of signed values; nothing of the program. -/
import Derived.Test.YtglgbhlnfafhjaaNumb
namespace Go.Proofs.Ytglgbhlnfafhjaa
open Go.RowKit

theorem lo_wrap (s : Int) : lo (wrap64 (lo s)) = lo s := by unfold wrap64 lo; omega
theorem wrap64_bd (s : Int) : -9223372036854775808 ≤ wrap64 s ∧ wrap64 s ≤ 9223372036854775807 := by unfold wrap64; omega
theorem wrap_in (s : Int) (h0 : -9223372036854775808 ≤ s) (h1 : s ≤ 9223372036854775807) : wrap64 (lo s) = s := by unfold wrap64 lo; omega
theorem wrap_out (s : Int) (h0 : -170141183460469231731687303715884105728 ≤ s) (h1 : s < 170141183460469231731687303715884105728) (h : s < -9223372036854775808 ∨ 9223372036854775807 < s) : (hi s == hi (wrap64 (lo s))) = false := by
  rw [beq_eq_false_iff_ne]; unfold wrap64 hi lo; omega
theorem sgnI_bd {W v : Int} (h : Norm W v) : -170141183460469231731687303715884105728 ≤ sgnI W v ∧ sgnI W v < 170141183460469231731687303715884105728 := by
  obtain ⟨h1, h2, h3, h4⟩ := h
  have hp := pow_pred W.toNat (by omega)
  have hq := pow_le128 W.toNat (by omega)
  unfold sgnI; split <;> omega
end Go.Proofs.Ytglgbhlnfafhjaa
