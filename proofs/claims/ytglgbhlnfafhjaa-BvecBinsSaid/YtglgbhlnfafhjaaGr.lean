/- math/bits.LeadingZeros64 and Div64 (high word nought), and quoRem of numbers of one word. -/
import Derived.Test.YtglgbhlnfafhjaaGq
namespace Go.Proofs.Ytglgbhlnfafhjaa
open Go.RowKit
theorem lz64 (y : Int) (hy : Word y) (w : World) : Calls Try.prog 57 #[.int .u64 y] w fun e w' => e = .returned (.int .i64 (64 - (Lib.bitLen y.toNat : Int))) ∧ w = w' := by
  refine (Try.bits_LeadingZeros64 y w hy.1 (by have := hy.2; omega)).mono ?_
  rintro e w' ⟨rfl, rfl⟩
  exact ⟨rfl, rfl⟩
set_option maxRecDepth 100000 in
set_option maxHeartbeats 4000000 in
theorem div64_small (l y : Int) (hl : Word l) (hy : 0 < y) (hy2 : y < 18446744073709551616) (w : World) : Calls Try.prog 56 #[.int .u64 0, .int .u64 l, .int .u64 y] w fun e w' => e = .returned (.tuple #[.int .u64 (l / y), .int .u64 (l % y)]) ∧ Fr w w' := by
  obtain ⟨h0, h1⟩ := hl
  have e1 : (y == 0) = false := beq_eq_false_iff_ne.2 (by omega)
  have hn : ¬ y = 0 := by omega
  have hw : IntKind.u64.wrap (l / y) = l / y := by
    rw [IntKind.wrap_u64]
    exact Int.emod_eq_of_lt (Int.ediv_nonneg h0 (by omega)) (Int.lt_of_le_of_lt (Int.ediv_le_self _ h0) h1)
  have ht : l.tmod y = l % y := Int.tmod_eq_emod_of_nonneg h0
  have hq : l.tdiv y = l / y := Int.tdiv_eq_ediv_of_nonneg h0
  go_enter Try.func56, Try.ntmps56
  go_wp2_with fail
  go_region
  go_wp2
  go_ret2
  exact ⟨rfl, by repeat (first | with_reducible exact Fr.refl _ | with_reducible apply Fr.drew)⟩
theorem quoRem_7_2 (w : World) : Calls Try.prog 45 #[wv 7, wv 2] w fun e w' => e = .returned (.tuple #[wv 3, wv 1]) ∧ Fr w w' :=
  quoRem_one 7 2 3 1 (by decide) (by decide) (fun w => div64_small 7 2 ⟨by decide, by decide⟩ (by decide) (by decide) w) w
end Go.Proofs.Ytglgbhlnfafhjaa
