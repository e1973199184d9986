/- For any two bit strings and any two places BvecParts answers true; no condition. -/
import Derived.Test.YtfnoocpopfapmaaParts
import Derived.Test.YtfnoocpopfapmaaPost
import Derived.WideKeyPair
namespace Go.Proofs.Ytfnoocpopfapmaa
open Go.ChangeShapes Go.WideShapes Go.ChangeAt Go.RowKit Go.Joins

theorem Try.pairKey : WideMaps.ArrKey Try.prog 31 3 2 := by
  constructor <;> kernel_rfl
set_option maxHeartbeats 1600000 in
set_option maxRecDepth 100000 in
theorem bvecParts_lifted (os : Os) (started : os.Started) (H : Type) (enc : TypeId × Value → H) :
    ReturnsInHanded {} Try.checked os 5 .any (Rows.bvecPartsSpec.pre6 enc Try.prog Try.f5 Rows.bvecPartsRow.domain false) (Rows.bvecPartsSpec.post enc Try.prog Try.f5 false true false false) := by
  refine returnsInHanded_of_change (C := Try.checked) Try.own started (by kernel_rfl) Try.func5
    (ChangeSpec.witness6 (enc := enc) (C := Try.checked) false ⟨#[], #[.agg #[.int .i64 0, .int .u64 0, .int .u64 0], .agg #[.int .i64 0, .int .u64 0, .int .u64 0], .agg #[.int .i64 0, .int .i64 0]], []⟩ 8 (by kernel_rfl) (by kernel_rfl) (by kernel_rfl) (by kernel_rfl)) ?_
  intro W base args ds gs before hval0 hW hcnd _
  have hval : ∀ (j : Nat) t v, Try.f5.params[j]? = some t → args[j]? = some v → Value.okWide Try.prog W .any base t v := hval0
  have hW' := hW
  obtain ⟨p, q, hA0, hV, rfl, hfz, hnd⟩ := hW
  have hA : DataW.TrodAll enc Try.prog W 0 (fun _ => true) true Try.f5.params.toList args.toList ds p := hA0
  rw [Try.params5] at hA hval
  obtain ⟨v0, v1, v2, d0, d1, d2, p0, p1, p2, rfl, rfl, rfl, h0, h1, h2⟩ := trodAll_three hA
  obtain ⟨rfl, rfl⟩ := trodVars_none hV
  obtain ⟨B, x, rfl, rfl, lo0, up0, wl0, wu0, k0⟩ := open_bits (hval 0 24 v0 rfl rfl) h0
  obtain ⟨C, z, rfl, rfl, lo1, up1, wl1, wu1, k1⟩ := open_bits (hval 1 24 v1 rfl rfl) h1
  obtain ⟨p, q, rfl, rfl, rfl, wa2, wb2⟩ := WideMaps.open_pair Try.pairKey Try.underlying3 (hval 2 31 v2 rfl rfl) h2
  clear hA0 hval0
  simp only [List.append_nil] at hW'
  refine (parts_walk B x C z p q lo0 up0 lo1 up1 W).mono fun e W' ⟨he, hw⟩ => ?_
  subst he
  exact ⟨_, rfl, law_post (gs := []) hW' hw (fun _ _ _ => trodAll_mk1 (shut_bool Try.underlying4 _)) (fun sp _ => trodAll_mk3 (k0 _ sp) (k1 _ sp) (WideMaps.shut_pair Try.pairKey Try.underlying3 wa2 wb2)) (fun _ => rfl)⟩
theorem bvecParts_holds : Rows.BvecPartsSaid :=
  OpenClaim.holds_of_wide 5 Try.f5 rfl rfl rfl rfl rfl rfl rfl ⟨rfl, rfl, rfl, rfl, rfl⟩ rfl rfl rfl rfl rfl (by kernel_rfl) Try.func5 (by kernel_rfl)
    (of_decide_eq_true (by kernel_rfl)) (by unfold Func.isWrapper; first | (rw [if_pos (by decide +kernel)]; kernel_rfl) | (rw [if_neg (by decide +kernel)]; exact ⟨rfl, rfl⟩))
    (fun os started H enc _ => bvecParts_lifted os started H enc)
#print axioms bvecParts_holds
end Go.Proofs.Ytfnoocpopfapmaa
