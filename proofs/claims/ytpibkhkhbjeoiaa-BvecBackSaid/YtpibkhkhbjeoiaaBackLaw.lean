/- For any two bit strings and any place BvecBack answers true and leaves its arguments alone; no condition. -/
import Derived.Test.YtpibkhkhbjeoiaaBack
import Derived.Test.YtpibkhkhbjeoiaaAlive
import Derived.Test.YtpibkhkhbjeoiaaPost
namespace Go.Proofs.Ytpibkhkhbjeoiaa
open Go.ChangeShapes Go.WideShapes Go.ChangeAt Go.RowKit Go.Joins

theorem int_of_wf {n : Int} (h : (Lit.int .i64 n).wf = true) : -9223372036854775808 ≤ n ∧ n ≤ 9223372036854775807 := by
  simp [Lit.wf, IntKind.min, IntKind.max, IntKind.signed, IntKind.bits] at h
  exact ⟨by omega, by omega⟩
theorem back_any (HA : AliveC) (W v X u y : Int) (v0 : 0 ≤ v) (v1 : v < 340282366920938463463374607431768211456) (u0 : 0 ≤ u) (u1 : u < 340282366920938463463374607431768211456) (w : World) :
    Calls Try.prog 9 #[bv W v, bv X u, .int .i64 y] w fun e w' => e = .returned (.bool true) ∧ Fr w w' := by
  cases h : normB W v
  · exact back_bad1 HA W v X u y v0 v1 u0 u1 h w
  cases k : normB X u
  · exact back_bad2 HA W v X u y v0 v1 u0 u1 h k w
  by_cases hy : 0 ≤ y ∧ y ≤ W - X
  · obtain ⟨y0, y1⟩ := hy
    have hn := norm_of v0 h
    have kn := norm_of u0 k
    cases c1 : (y == 0)
    · have c1' := beq_eq_false_iff_ne.1 c1
      cases c2 : (y + X == W)
      · have c2' := beq_eq_false_iff_ne.1 c2
        exact back_yr HA W v X u y hn kn y0 y1 c1 (by omega) c2 (by omega) w
      · exact back_yW HA W v X u y hn kn y0 y1 c1 (by omega) c2 w
    · cases c2 : (y + X == W)
      · have c2' := beq_eq_false_iff_ne.1 c2
        exact back_0r HA W v X u y hn kn y0 y1 c1 c2 (by omega) w
      · exact back_0W HA W v X u y hn kn y0 y1 c1 c2 w
  · exact back_bad3 HA W v X u y v0 v1 u0 u1 h k (by omega) w
set_option maxHeartbeats 1600000 in
set_option maxRecDepth 100000 in
theorem bvecBack_lifted (os : Os) (started : os.Started) (H : Type) (enc : TypeId × Value → H) :
    ReturnsInHanded {} Try.checked os 9 .any (Rows.bvecBackSpec.pre6 enc Try.prog Try.f9 Rows.bvecBackRow.domain false) (Rows.bvecBackSpec.post enc Try.prog Try.f9 false true false false) := by
  refine returnsInHanded_of_change (C := Try.checked) Try.own started (by kernel_rfl) Try.func9
    (ChangeSpec.witness6 (enc := enc) (C := Try.checked) false ⟨#[], #[.agg #[.int .i64 0, .int .u64 0, .int .u64 0], .agg #[.int .i64 0, .int .u64 0, .int .u64 0], .int .i64 0], []⟩ 8 (by kernel_rfl) (by kernel_rfl) (by kernel_rfl) (by kernel_rfl)) ?_
  intro W base args ds gs before hval0 hW hcnd _
  have hval : ∀ (j : Nat) t v, Try.f9.params[j]? = some t → args[j]? = some v → Value.okWide Try.prog W .any base t v := hval0
  have hW' := hW
  obtain ⟨p, q, hA0, hV, rfl, hfz, hnd⟩ := hW
  have hA : DataW.TrodAll enc Try.prog W 0 (fun _ => true) true Try.f9.params.toList args.toList ds p := hA0
  rw [Try.params9] at hA hval
  obtain ⟨v0, v1, v2, d0, d1, d2, p0, p1, p2, rfl, rfl, rfl, h0, h1, h2⟩ := trodAll_three hA
  obtain ⟨rfl, rfl⟩ := trodVars_none hV
  obtain ⟨A, a, rfl, rfl, lo0, up0, wl0, wu0, k0⟩ := open_bits (hval 0 25 v0 rfl rfl) h0
  obtain ⟨B, b, rfl, rfl, lo1, up1, wl1, wu1, k1⟩ := open_bits (hval 1 25 v1 rfl rfl) h1
  obtain ⟨n, rfl, rfl, rfl, wf2⟩ := open_int Try.underlying3 (hval 2 3 v2 rfl rfl) h2
  obtain ⟨wl2, wu2⟩ := int_of_wf wf2
  clear hA0 hval0
  simp only [List.append_nil] at hW'
  refine (back_any alive A a B b n lo0 up0 lo1 up1 W).mono fun e W' ⟨he, hw⟩ => ?_
  subst he
  exact ⟨_, rfl, law_post (gs := []) hW' hw (fun _ _ _ => trodAll_mk1 (shut_bool Try.underlying4 _)) (fun sp _ => trodAll_mk3 (k0 _ sp) (k1 _ sp) (shut_int Try.underlying3 wf2)) (fun _ => rfl)⟩
theorem bvecBack_holds : Rows.BvecBackSaid :=
  OpenClaim.holds_of_wide 9 Try.f9 rfl rfl rfl rfl rfl rfl rfl ⟨rfl, rfl, rfl, rfl, rfl⟩ rfl rfl rfl rfl rfl (by kernel_rfl) Try.func9 (by kernel_rfl)
    (of_decide_eq_true (by kernel_rfl)) (by unfold Func.isWrapper; first | (rw [if_pos (by decide +kernel)]; kernel_rfl) | (rw [if_neg (by decide +kernel)]; exact ⟨rfl, rfl⟩))
    (fun os started H enc _ => bvecBack_lifted os started H enc)
#print axioms bvecBack_holds
end Go.Proofs.Ytpibkhkhbjeoiaa
