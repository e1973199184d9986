/- The width of a term of parts, of the program. -/
import Derived.Test.YtcndmiolaheaeabGreatDoorVb
import Derived.Laws.BitsLemmas
namespace Go.Proofs.YtcndmiolaheaeabGreatDoor
open Go.RowKit
set_option linter.unusedSimpArgs false
set_option linter.unusedVariables false

set_option maxHeartbeats 12800000 in
set_option maxRecDepth 100000 in
theorem joined_any (op wd a b x y z : Int) (K : Option Addr) (kl kc : Nat) (w : World) (hx : 0 ≤ x ∧ x ≤ 128) (hy : 0 ≤ y ∧ y ≤ 128) :
    Calls Tryz.prog 58 #[.agg #[.int .i64 op, .int .i64 wd, .int .i64 a, .int .i64 b, .slice K kl kc], .int .i64 x, .int .i64 y, .int .i64 z] w fun e w' => e = .returned (.int .i64 (joinW op wd a b x y z)) ∧ Fr w w' := by
  have hxy : IntKind.i64.wrap (x + y) = x + y := by rw [IntKind.wrap_i64]; omega
  have HX := Lib.hid hx
  have HY := Lib.hid hy
  clear hx hy
  go_enter Tryz.func58, Tryz.ntmps58
  go_wp2_with (first
    | (go_at_call 92; refine (wide_any _ _).mono ?_; rintro e w1 ⟨rfl, rfl⟩)
    | (go_at_call 97; refine (shared_any _ _ _).mono ?_; rintro e w1 ⟨rfl, rfl⟩)
    | (go_at_call 96; refine (stored_any _ _).mono ?_; rintro e w1 ⟨rfl, rfl⟩))
  all_goals (go_ret; refine ⟨ret_eq ?_, Fr.alloc (Fr.refl w) _⟩)
  all_goals (have h1 := HX.out; have h2 := HY.out; clear HX HY hxy)
  all_goals first
    | (simp_all [joinW, IntKind.wrap_i64]; done)
    | (simp_all [joinW, IntKind.wrap_i64]; omega)
    | (simp_all [joinW, IntKind.wrap_i64]; split <;> omega)
    | (simp_all [joinW, wrap64]; omega)
end Go.Proofs.YtcndmiolaheaeabGreatDoor
