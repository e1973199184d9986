/- The first example of the chapter holds: bvecAlive answers true. -/
import Derived.Test.YtglgbhlnfafhjaaGk
import Derived.Test.YtglgbhlnfafhjaaGfi
import Derived.Test.YtglgbhlnfafhjaaGj
import Derived.Test.YtglgbhlnfafhjaaGs
import Derived.Test.YtglgbhlnfafhjaaGr
namespace Go.Proofs.Ytglgbhlnfafhjaa
open Go.RowKit

theorem fromInt8 (n z : Int) (hz : cutI 8 n = z) (h1 : hi z = 0) (h2 : lo z = z) (n0 : -9223372036854775808 ≤ n) (n1 : n ≤ 9223372036854775807) (w : World) :
    Calls Try.prog 7 #[.int .i64 8, .int .i64 n] w fun e w' => e = .returned (.agg #[.int .i64 8, .int .u64 0, .int .u64 z]) ∧ Fr w w' := by
  have h := fromInt_ok 8 n (by decide) (by decide) n0 n1 w
  have e : cutI (8 : Int).toNat n = z := hz
  rw [e] at h
  simp only [bv, h1, h2] at h
  exact h
theorem divs_alive (w : World) : Calls Try.prog 15 #[.bool true, .int .i64 8, wv (sgnI 8 249), wv (sgnI 8 2)] w fun e w' => e = .returned (bv 8 253) ∧ Fr w w' := by
  have e1 : sgnI 8 249 = -7 := by decide
  have e2 : sgnI 8 2 = 2 := by decide
  have e3 : absI (-7) = 7 := by decide
  have e4 : absI 2 = 2 := by decide
  rw [e1, e2]
  have h := ds_B true 8 (-7) 2 (by decide) (by decide) (by decide) (by decide) 3 1 (fun w => by rw [e3, e4]; exact quoRem_7_2 w) w
  have e5 : cutI (8 : Int).toNat (dsI true (-7) 2 3 1) = 253 := by decide
  rw [e5] at h
  exact h
theorem bin_alive (w : World) : Calls Try.prog 5 #[.int .i64 12, .agg #[.int .i64 8, .int .u64 0, .int .u64 249], .agg #[.int .i64 8, .int .u64 0, .int .u64 2]] w fun e w' => e = .returned (.agg #[.int .i64 8, .int .u64 0, .int .u64 253]) ∧ Fr w w' := by
  have h := bin_12 8 249 2 253 ⟨by decide, by decide, by decide, by decide⟩ ⟨by decide, by decide, by decide, by decide⟩ divs_alive w
  have a1 : hi 249 = 0 := by decide
  have a2 : lo 249 = 249 := by decide
  have b1 : hi 2 = 0 := by decide
  have b2 : lo 2 = 2 := by decide
  have c1 : hi 253 = 0 := by decide
  have c2 : lo 253 = 253 := by decide
  simp only [bv, a1, a2, b1, b2, c1, c2] at h
  exact h
set_option maxHeartbeats 4000000 in
theorem alive  (w : World) :
    Calls Try.prog 4 #[] w fun e w' => e = .returned (.bool true) ∧ Fr w w' := by
  go_enter Try.func4, Try.ntmps4
  go_wp2_with fail
  refine (fromInt8 (-1) 255 (by decide) (by decide) (by decide) (by decide) (by decide) _).mono ?_
  rintro e w1 ⟨rfl, hb1⟩
  go_wp2_with fail
  refine (fromInt8 (-7) 249 (by decide) (by decide) (by decide) (by decide) (by decide) _).mono ?_
  rintro e w2 ⟨rfl, hb2⟩
  go_wp2_with fail
  refine (fromInt8 (2) 2 (by decide) (by decide) (by decide) (by decide) (by decide) _).mono ?_
  rintro e w3 ⟨rfl, hb3⟩
  go_wp2_with fail
  refine (bin_alive _).mono ?_
  rintro e w4 ⟨rfl, hb4⟩
  go_wp2_with fail
  refine (fromInt8 (-3) 253 (by decide) (by decide) (by decide) (by decide) (by decide) _).mono ?_
  rintro e w5 ⟨rfl, hb5⟩
  go_wp2
  go_ret
  exact ⟨rfl, by repeat (first | with_reducible exact Fr.refl _ | with_reducible apply Fr.drewN | with_reducible apply Fr.drew | with_reducible apply Fr.alloc | (with_reducible refine Fr.set ?_ (by simp; try omega) _) | (with_reducible refine Fr.call ?_ (by assumption)))⟩
end Go.Proofs.Ytglgbhlnfafhjaa
