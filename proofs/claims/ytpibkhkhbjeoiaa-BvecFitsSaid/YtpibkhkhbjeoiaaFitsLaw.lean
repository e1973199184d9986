/- For any number and any width BvecFits answers true; no condition. -/
import Derived.Test.YtpibkhkhbjeoiaaFits
import Derived.Test.YtpibkhkhbjeoiaaAlive
import Derived.Test.YtpibkhkhbjeoiaaPost
namespace Go.Proofs.Ytpibkhkhbjeoiaa
open Go.ChangeShapes Go.WideShapes Go.ChangeAt Go.RowKit Go.Joins

theorem int_of_wf {n : Int} (h : (Lit.int .i64 n).wf = true) : -9223372036854775808 ≤ n ∧ n ≤ 9223372036854775807 := by
  simp [Lit.wf, IntKind.min, IntKind.max, IntKind.signed, IntKind.bits] at h
  exact ⟨by omega, by omega⟩
theorem fits_any (HA : AliveC) (n x : Int) (n0 : -9223372036854775808 ≤ n) (n1 : n ≤ 9223372036854775807) (x0 : -9223372036854775808 ≤ x) (x1 : x ≤ 9223372036854775807) (w : World) :
    Calls Try.prog 8 #[.int .i64 n, .int .i64 x] w fun e w' => e = .returned (.bool true) ∧ Fr w w' := by
  by_cases h : x < 1
  · exact fits_low HA n x n0 n1 x0 x1 h w
  by_cases h2 : 64 < x
  · by_cases k : 0 ≤ n
    · exact fits_high_pos HA n x n0 n1 x0 x1 h2 k w
    · exact fits_high_neg HA n x n0 n1 x0 x1 h2 (by omega) w
  by_cases k : cutI x.toNat n ≤ 9223372036854775807
  · exact fits_mid_in HA n x n0 n1 x0 x1 (by omega) (by omega) k w
  · exact fits_mid_out HA n x n0 n1 x0 x1 (by omega) (by omega) (by omega) w
set_option maxHeartbeats 1600000 in
set_option maxRecDepth 100000 in
theorem bvecFits_lifted (os : Os) (started : os.Started) (H : Type) (enc : TypeId × Value → H) :
    ReturnsInHanded {} Try.checked os 8 .any (Rows.bvecFitsSpec.pre6 enc Try.prog Try.f8 Rows.bvecFitsRow.domain false) (Rows.bvecFitsSpec.post enc Try.prog Try.f8 false true false false) := by
  refine returnsInHanded_of_change (C := Try.checked) Try.own started (by kernel_rfl) Try.func8
    (ChangeSpec.witness6 (enc := enc) (C := Try.checked) false ⟨#[], #[.int .i64 0, .int .i64 0], []⟩ 8 (by kernel_rfl) (by kernel_rfl) (by kernel_rfl) (by kernel_rfl)) ?_
  intro W base args ds gs before hval0 hW hcnd _
  have hval : ∀ (j : Nat) t v, Try.f8.params[j]? = some t → args[j]? = some v → Value.okWide Try.prog W .any base t v := hval0
  have hW' := hW
  obtain ⟨p, q, hA0, hV, rfl, hfz, hnd⟩ := hW
  have hA : DataW.TrodAll enc Try.prog W 0 (fun _ => true) true Try.f8.params.toList args.toList ds p := hA0
  rw [Try.params8] at hA hval
  obtain ⟨v0, v1, d0, d1, p0, p1, rfl, rfl, rfl, h0, h1⟩ := trodAll_two hA
  obtain ⟨rfl, rfl⟩ := trodVars_none hV
  obtain ⟨n, rfl, rfl, rfl, wf0⟩ := open_int Try.underlying3 (hval 0 3 v0 rfl rfl) h0
  obtain ⟨wl0, wu0⟩ := int_of_wf wf0
  obtain ⟨m, rfl, rfl, rfl, wf1⟩ := open_int Try.underlying3 (hval 1 3 v1 rfl rfl) h1
  obtain ⟨wl1, wu1⟩ := int_of_wf wf1
  clear hA0 hval0
  simp only [List.append_nil] at hW'
  refine (fits_any alive n m wl0 wu0 wl1 wu1 W).mono fun e W' ⟨he, hw⟩ => ?_
  subst he
  exact ⟨_, rfl, law_post (gs := []) hW' hw (fun _ _ _ => trodAll_mk1 (shut_bool Try.underlying4 _)) (fun sp _ => trodAll_mk2 (shut_int Try.underlying3 wf0) (shut_int Try.underlying3 wf1)) (fun _ => rfl)⟩
theorem bvecFits_holds : Rows.BvecFitsSaid :=
  OpenClaim.holds_of_wide 8 Try.f8 rfl rfl rfl rfl rfl rfl rfl ⟨rfl, rfl, rfl, rfl, rfl⟩ rfl rfl rfl rfl rfl (by kernel_rfl) Try.func8 (by kernel_rfl)
    (of_decide_eq_true (by kernel_rfl)) (by unfold Func.isWrapper; first | (rw [if_pos (by decide +kernel)]; kernel_rfl) | (rw [if_neg (by decide +kernel)]; exact ⟨rfl, rfl⟩))
    (fun os started H enc _ => bvecFits_lifted os started H enc)
#print axioms bvecFits_holds
end Go.Proofs.Ytpibkhkhbjeoiaa
