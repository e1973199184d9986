/- For any three bit strings BvecRing answers true and leaves its arguments alone; no condition. -/
import Derived.Test.YtpibkhkhbjeoiaaRing
import Derived.Test.YtpibkhkhbjeoiaaRingb
import Derived.Test.YtpibkhkhbjeoiaaAlive
import Derived.Test.YtpibkhkhbjeoiaaPost
namespace Go.Proofs.Ytpibkhkhbjeoiaa
open Go.ChangeShapes Go.WideShapes Go.ChangeAt Go.RowKit Go.Joins

theorem ring_any (HA : AliveC) (W v X u Y x : Int) (v0 : 0 ≤ v) (v1 : v < 340282366920938463463374607431768211456) (u0 : 0 ≤ u) (u1 : u < 340282366920938463463374607431768211456) (x0 : 0 ≤ x) (x1 : x < 340282366920938463463374607431768211456) (w : World) :
    Calls Try.prog 11 #[bv W v, bv X u, bv Y x] w fun e w' => e = .returned (.bool true) ∧ Fr w w' := by
  cases h : normB W v
  · exact ring_bad1 HA W v X u Y x v0 v1 u0 u1 x0 x1 h w
  cases k : normB X u
  · exact ring_bad2 HA W v X u Y x v0 v1 u0 u1 x0 x1 h k w
  cases j : normB Y x
  · exact ring_bad3 HA W v X u Y x v0 v1 u0 u1 x0 x1 h k j w
  by_cases n1 : W = X
  · by_cases n2 : W = Y
    · subst n1; subst n2
      exact ring_true HA W v u x (norm_of v0 h) (norm_of u0 k) (norm_of x0 j) w
    · refine ring_bad4 HA W v X u Y x v0 v1 u0 u1 x0 x1 h k j (Or.inr ⟨?_, ?_⟩) w
      · rw [bne_eq_false_iff_eq]; exact n1
      · rw [bne_iff_ne]; exact n2
  · exact ring_bad4 HA W v X u Y x v0 v1 u0 u1 x0 x1 h k j (Or.inl (by rw [bne_iff_ne]; exact n1)) w
set_option maxHeartbeats 1600000 in
set_option maxRecDepth 100000 in
theorem bvecRing_lifted (os : Os) (started : os.Started) (H : Type) (enc : TypeId × Value → H) :
    ReturnsInHanded {} Try.checked os 11 .any (Rows.bvecRingSpec.pre6 enc Try.prog Try.f11 Rows.bvecRingRow.domain false) (Rows.bvecRingSpec.post enc Try.prog Try.f11 false true false false) := by
  refine returnsInHanded_of_change (C := Try.checked) Try.own started (by kernel_rfl) Try.func11
    (ChangeSpec.witness6 (enc := enc) (C := Try.checked) false ⟨#[], #[.agg #[.int .i64 0, .int .u64 0, .int .u64 0], .agg #[.int .i64 0, .int .u64 0, .int .u64 0], .agg #[.int .i64 0, .int .u64 0, .int .u64 0]], []⟩ 8 (by kernel_rfl) (by kernel_rfl) (by kernel_rfl) (by kernel_rfl)) ?_
  intro W base args ds gs before hval0 hW hcnd _
  have hval : ∀ (j : Nat) t v, Try.f11.params[j]? = some t → args[j]? = some v → Value.okWide Try.prog W .any base t v := hval0
  have hW' := hW
  obtain ⟨p, q, hA0, hV, rfl, hfz, hnd⟩ := hW
  have hA : DataW.TrodAll enc Try.prog W 0 (fun _ => true) true Try.f11.params.toList args.toList ds p := hA0
  rw [Try.params11] at hA hval
  obtain ⟨v0, v1, v2, d0, d1, d2, p0, p1, p2, rfl, rfl, rfl, h0, h1, h2⟩ := trodAll_three hA
  obtain ⟨rfl, rfl⟩ := trodVars_none hV
  obtain ⟨A, a, rfl, rfl, lo0, up0, wl0, wu0, k0⟩ := open_bits (hval 0 25 v0 rfl rfl) h0
  obtain ⟨B, b, rfl, rfl, lo1, up1, wl1, wu1, k1⟩ := open_bits (hval 1 25 v1 rfl rfl) h1
  obtain ⟨C, c, rfl, rfl, lo2, up2, wl2, wu2, k2⟩ := open_bits (hval 2 25 v2 rfl rfl) h2
  clear hA0 hval0
  simp only [List.append_nil] at hW'
  refine (ring_any alive A a B b C c lo0 up0 lo1 up1 lo2 up2 W).mono fun e W' ⟨he, hw⟩ => ?_
  subst he
  exact ⟨_, rfl, law_post (gs := []) hW' hw (fun _ _ _ => trodAll_mk1 (shut_bool Try.underlying4 _)) (fun sp _ => trodAll_mk3 (k0 _ sp) (k1 _ sp) (k2 _ sp)) (fun _ => rfl)⟩
theorem bvecRing_holds : Rows.BvecRingSaid :=
  OpenClaim.holds_of_wide 11 Try.f11 rfl rfl rfl rfl rfl rfl rfl ⟨rfl, rfl, rfl, rfl, rfl⟩ rfl rfl rfl rfl rfl (by kernel_rfl) Try.func11 (by kernel_rfl)
    (of_decide_eq_true (by kernel_rfl)) (by unfold Func.isWrapper; first | (rw [if_pos (by decide +kernel)]; kernel_rfl) | (rw [if_neg (by decide +kernel)]; exact ⟨rfl, rfl⟩))
    (fun os started H enc _ => bvecRing_lifted os started H enc)
#print axioms bvecRing_holds
end Go.Proofs.Ytpibkhkhbjeoiaa
