/- BvecUns: both packages answer the same bits. -/
import Derived.Test.YtfnoocpopfapmaaRmk
import Derived.Test.YtfnoocpopfapmaaGb
import Derived.Test.YtfnoocpopfapmaaAlive
import Derived.Test.YtfnoocpopfapmaaExt
namespace Go.Proofs.Ytfnoocpopfapmaa
open Go.RowKit

theorem un_both (op W v : Int) (v0 : 0 ≤ v) (v1 : v < 340282366920938463463374607431768211456) :
    ∃ X y : Int, (∀ w : World, Calls Try.prog 11 #[.int .i64 op, bv W v] w fun e w' => e = .returned (bv X y) ∧ Fr w w') ∧
      (∀ w : World, Calls Try.prog 12 #[.int .i64 op, bv W v] w fun e w' => e = .returned (bv X y) ∧ Fr w w') := by
  cases hb : normB W v
  · exact ⟨0, 0, un_bad op W v v0 v1 hb, run_bad op W v v0 v1 hb⟩
  · have h := norm_of v0 hb
    obtain ⟨n, rfl⟩ := Int.eq_ofNat_of_zero_le (show 0 ≤ W by have := h.1; omega)
    by_cases o1 : op = 18
    · subst o1
      refine ⟨n, cutI n (-1 - v), ?_, run_18 n v h⟩
      have := un_18 n v h
      rw [Int.toNat_natCast] at this; exact this
    · by_cases o2 : op = 19
      · subst o2
        refine ⟨n, cutI n (-v), ?_, run_19 n v h⟩
        have := un_19 n v h
        rw [Int.toNat_natCast] at this; exact this
      · have e1 : (op == 18) = false := by simp [o1]
        have e2 : (op == 19) = false := by simp [o2]
        exact ⟨0, 0, un_no op n v h e1 e2, run_no op n v h e1 e2⟩
set_option maxHeartbeats 3200000 in
set_option maxRecDepth 10000 in
theorem uns_walk (op W v : Int) (v0 : 0 ≤ v) (v1 : v < 340282366920938463463374607431768211456) (w : World) :
    Calls Try.prog 4 #[.int .i64 op, bv W v] w fun e w' => e = .returned (.bool true) ∧ Fr w w' := by
  obtain ⟨X, y, hu, hr⟩ := un_both op W v v0 v1
  have HU := Lib.hid hu
  have HR := Lib.hid hr
  have HA := Lib.hid alive
  have HN := Lib.hid (fun wx => normal_any W v v0 v1 wx)
  have HM := Lib.hid (fun wx => rnormal_any W v v0 v1 wx)
  generalize normB W v = nb at *
  obtain ⟨c0, c1, c2⟩ := bits_cells w 24 (.int .i64 W) (.int .u64 (hi v)) (.int .u64 (lo v))
  have x0 := fun ex : Ext (w.alloc (.cells #[.int .i64 W, .int .u64 (hi v), .int .u64 (lo v)] 24)) => ex.get c0
  have x1 := fun ex : Ext (w.alloc (.cells #[.int .i64 W, .int .u64 (hi v), .int .u64 (lo v)] 24)) => ex.get c1
  have x2 := fun ex : Ext (w.alloc (.cells #[.int .i64 W, .int .u64 (hi v), .int .u64 (lo v)] 24)) => ex.get c2
  clear hu hr c0 c1 c2 v0 v1
  go_enter Try.func4, Try.ntmps4
  go_wp2_with fail
  refine wp_region_ext (by kernel_rfl) (by kernel_rfl) ?_
  repeat (go_big_quiet_step (first
    | (go_at_call 8; exact ext_of (HA.out _))
    | (go_at_call 11; exact ext_of (HU.out _))
    | (go_at_call 12; exact ext_of (HR.out _))
    | (go_at_call 13; exact ext_of (HN.out _))
    | (go_at_call 14; exact ext_of (HM.out _))))
  refine wpQuiet_nil ?_
  intro w5 hw5
  obtain ⟨y5, rfl⟩ := hw5
  have HF := Lib.hid (((Fr.refl w).alloc _).call y5.fr)
  go_wp2
  go_ret
  exact ⟨ret_bool (by simp), HF.out⟩
end Go.Proofs.Ytfnoocpopfapmaa
