/- Contracts of the statements' sum and mul, and of Bin's sum, difference, product: normal bits of one width. -/
import Derived.Test.YtglgbhlnfafhjaaGi
namespace Go.Proofs.Ytglgbhlnfafhjaa
open Go.RowKit

theorem bin_add (W v u : Int) (h : Norm W v) (k : Norm W u) (w : World) : Calls Try.prog 5 #[.int .i64 1, bv W v, bv W u] w fun e w' => e = .returned (bv W (cutI W.toNat (v + u))) ∧ Fr w w' :=
  bin_1 W v u _ h k (fun w => reckon_1 v u w) w
theorem bin_sub (W v u : Int) (h : Norm W v) (k : Norm W u) (w : World) : Calls Try.prog 5 #[.int .i64 2, bv W v, bv W u] w fun e w' => e = .returned (bv W (cutI W.toNat (v - u))) ∧ Fr w w' :=
  bin_2 W v u _ h k (fun w => reckon_2 v u w) w
theorem bin_mul (W v u : Int) (h : Norm W v) (k : Norm W u) (w : World) : Calls Try.prog 5 #[.int .i64 3, bv W v, bv W u] w fun e w' => e = .returned (bv W (cutI W.toNat (v * u))) ∧ Fr w w' :=
  bin_3 W v u _ h k (fun w => reckon_3 v u w) w
theorem bin_and (W v u : Int) (h : Norm W v) (k : Norm W u) (w : World) : Calls Try.prog 5 #[.int .i64 4, bv W v, bv W u] w fun e w' => e = .returned (bv W (cutI W.toNat (landI v u))) ∧ Fr w w' :=
  bin_4 W v u _ h k (fun w => reckon_4 v u w) w
theorem bin_or (W v u : Int) (h : Norm W v) (k : Norm W u) (w : World) : Calls Try.prog 5 #[.int .i64 5, bv W v, bv W u] w fun e w' => e = .returned (bv W (cutI W.toNat (lorI v u))) ∧ Fr w w' :=
  bin_5 W v u _ h k (fun w => reckon_5 v u w) w
theorem bin_xor (W v u : Int) (h : Norm W v) (k : Norm W u) (w : World) : Calls Try.prog 5 #[.int .i64 6, bv W v, bv W u] w fun e w' => e = .returned (bv W (cutI W.toNat (lxorI v u))) ∧ Fr w w' :=
  bin_6 W v u _ h k (fun w => reckon_6 v u w) w
end Go.Proofs.Ytglgbhlnfafhjaa
