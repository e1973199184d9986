/- For any bits, any width and any cut BvecExtends answers true and leaves its arguments alone; no condition. -/
import Derived.Test.YtpibkhkhbjeoiaaExt1
import Derived.Test.YtpibkhkhbjeoiaaAlive
import Derived.Test.YtpibkhkhbjeoiaaPost
namespace Go.Proofs.Ytpibkhkhbjeoiaa
open Go.ChangeShapes Go.WideShapes Go.ChangeAt Go.RowKit Go.Joins

theorem int_of_wf {n : Int} (h : (Lit.int .i64 n).wf = true) : -9223372036854775808 ≤ n ∧ n ≤ 9223372036854775807 := by
  simp [Lit.wf, IntKind.min, IntKind.max, IntKind.signed, IntKind.bits] at h
  exact ⟨by omega, by omega⟩
theorem extends_any (HA : AliveC) (W v x c : Int) (v0 : 0 ≤ v) (v1 : v < 340282366920938463463374607431768211456) (w : World) :
    Calls Try.prog 12 #[bv W v, .int .i64 x, .int .i64 c] w fun e w' => e = .returned (.bool true) ∧ Fr w w' := by
  cases h : normB W v
  · exact extends_bad1 HA W v x c v0 v1 h w
  by_cases hx : W ≤ x ∧ x ≤ 128
  · obtain ⟨hx1, hx2⟩ := hx
    have hn := norm_of v0 h
    by_cases hc : 1 ≤ c ∧ c < W
    · by_cases s : -9223372036854775808 ≤ sgnI W v ∧ sgnI W v ≤ 9223372036854775807
      · exact extends_in_yes HA W v x c hn hx1 hx2 s.1 s.2 hc.1 hc.2 w
      · exact extends_out_yes HA W v x c hn hx1 hx2 (by omega) hc.1 hc.2 w
    · by_cases s : -9223372036854775808 ≤ sgnI W v ∧ sgnI W v ≤ 9223372036854775807
      · exact extends_in_no HA W v x c hn hx1 hx2 s.1 s.2 (by omega) w
      · exact extends_out_no HA W v x c hn hx1 hx2 (by omega) (by omega) w
  · exact extends_bad2 HA W v x c v0 v1 h (by omega) w
set_option maxHeartbeats 1600000 in
set_option maxRecDepth 100000 in
theorem bvecExtends_lifted (os : Os) (started : os.Started) (H : Type) (enc : TypeId × Value → H) :
    ReturnsInHanded {} Try.checked os 12 .any (Rows.bvecExtendsSpec.pre6 enc Try.prog Try.f12 Rows.bvecExtendsRow.domain false) (Rows.bvecExtendsSpec.post enc Try.prog Try.f12 false true false false) := by
  refine returnsInHanded_of_change (C := Try.checked) Try.own started (by kernel_rfl) Try.func12
    (ChangeSpec.witness6 (enc := enc) (C := Try.checked) false ⟨#[], #[.agg #[.int .i64 0, .int .u64 0, .int .u64 0], .int .i64 0, .int .i64 0], []⟩ 8 (by kernel_rfl) (by kernel_rfl) (by kernel_rfl) (by kernel_rfl)) ?_
  intro W base args ds gs before hval0 hW hcnd _
  have hval : ∀ (j : Nat) t v, Try.f12.params[j]? = some t → args[j]? = some v → Value.okWide Try.prog W .any base t v := hval0
  have hW' := hW
  obtain ⟨p, q, hA0, hV, rfl, hfz, hnd⟩ := hW
  have hA : DataW.TrodAll enc Try.prog W 0 (fun _ => true) true Try.f12.params.toList args.toList ds p := hA0
  rw [Try.params12] at hA hval
  obtain ⟨v0, v1, v2, d0, d1, d2, p0, p1, p2, rfl, rfl, rfl, h0, h1, h2⟩ := trodAll_three hA
  obtain ⟨rfl, rfl⟩ := trodVars_none hV
  obtain ⟨A, a, rfl, rfl, lo0, up0, wl0, wu0, k0⟩ := open_bits (hval 0 25 v0 rfl rfl) h0
  obtain ⟨n, rfl, rfl, rfl, wf1⟩ := open_int Try.underlying3 (hval 1 3 v1 rfl rfl) h1
  obtain ⟨wl1, wu1⟩ := int_of_wf wf1
  obtain ⟨m, rfl, rfl, rfl, wf2⟩ := open_int Try.underlying3 (hval 2 3 v2 rfl rfl) h2
  obtain ⟨wl2, wu2⟩ := int_of_wf wf2
  clear hA0 hval0
  simp only [List.append_nil] at hW'
  refine (extends_any alive A a n m lo0 up0 W).mono fun e W' ⟨he, hw⟩ => ?_
  subst he
  exact ⟨_, rfl, law_post (gs := []) hW' hw (fun _ _ _ => trodAll_mk1 (shut_bool Try.underlying4 _)) (fun sp _ => trodAll_mk3 (k0 _ sp) (shut_int Try.underlying3 wf1) (shut_int Try.underlying3 wf2)) (fun _ => rfl)⟩
theorem bvecExtends_holds : Rows.BvecExtendsSaid :=
  OpenClaim.holds_of_wide 12 Try.f12 rfl rfl rfl rfl rfl rfl rfl ⟨rfl, rfl, rfl, rfl, rfl⟩ rfl rfl rfl rfl rfl (by kernel_rfl) Try.func12 (by kernel_rfl)
    (of_decide_eq_true (by kernel_rfl)) (by unfold Func.isWrapper; first | (rw [if_pos (by decide +kernel)]; kernel_rfl) | (rw [if_neg (by decide +kernel)]; exact ⟨rfl, rfl⟩))
    (fun os started H enc _ => bvecExtends_lifted os started H enc)
#print axioms bvecExtends_holds
end Go.Proofs.Ytpibkhkhbjeoiaa
