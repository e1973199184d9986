/- For any operation and any two bit strings BvecBins answers true; no condition. -/
import Derived.Test.YtglgbhlnfafhjaaBinb
import Derived.Test.YtglgbhlnfafhjaaAlive
import Derived.Test.YtglgbhlnfafhjaaExt
import Derived.Test.YtglgbhlnfafhjaaPost
namespace Go.Proofs.Ytglgbhlnfafhjaa
section
open Go.RowKit

theorem pair_boxes (w : World) (a b c d e f : Value) :
    Bk ((w.alloc (.cells #[a, b, c] 24)).alloc (.cells #[d, e, f] 24)) w.heap.size 24 #[a, b, c] ∧
    Bk ((w.alloc (.cells #[a, b, c] 24)).alloc (.cells #[d, e, f] 24)) (w.heap.size + 1) 24 #[d, e, f] := by
  refine ⟨(Bk.new w _ _).fr ((Fr.refl _).alloc _), ?_⟩
  have h := Bk.new (w.alloc (.cells #[a, b, c] 24)) 24 #[d, e, f]
  rw [show (w.alloc (.cells #[a, b, c] 24)).heap.size = w.heap.size + 1 by simp] at h
  exact h
set_option maxHeartbeats 3200000 in
set_option maxRecDepth 10000 in
theorem bins_walk (op W v X u : Int) (v0 : 0 ≤ v) (v1 : v < 340282366920938463463374607431768211456) (u0 : 0 ≤ u) (u1 : u < 340282366920938463463374607431768211456) (w : World) :
    Calls Try.prog 3 #[.int .i64 op, bv W v, bv X u] w fun e w' => e = .returned (.bool true) ∧ Fr w w' := by
  obtain ⟨Z, y, hu, hr⟩ := bin_both op W v X u v0 v1 u0 u1
  have HU := Lib.hid hu
  have HR := Lib.hid hr
  have HA := Lib.hid alive
  obtain ⟨b1, b2⟩ := pair_boxes w (.int .i64 W) (.int .u64 (hi v)) (.int .u64 (lo v)) (.int .i64 X) (.int .u64 (hi u)) (.int .u64 (lo u))
  obtain ⟨c0, c1, c2⟩ := b1.three
  obtain ⟨c3, c4, c5⟩ := b2.three
  have x0 := fun ex : Ext ((w.alloc (.cells #[.int .i64 W, .int .u64 (hi v), .int .u64 (lo v)] 24)).alloc (.cells #[.int .i64 X, .int .u64 (hi u), .int .u64 (lo u)] 24)) => ex.get c0
  have x1 := fun ex : Ext ((w.alloc (.cells #[.int .i64 W, .int .u64 (hi v), .int .u64 (lo v)] 24)).alloc (.cells #[.int .i64 X, .int .u64 (hi u), .int .u64 (lo u)] 24)) => ex.get c1
  have x2 := fun ex : Ext ((w.alloc (.cells #[.int .i64 W, .int .u64 (hi v), .int .u64 (lo v)] 24)).alloc (.cells #[.int .i64 X, .int .u64 (hi u), .int .u64 (lo u)] 24)) => ex.get c2
  have x3 := fun ex : Ext ((w.alloc (.cells #[.int .i64 W, .int .u64 (hi v), .int .u64 (lo v)] 24)).alloc (.cells #[.int .i64 X, .int .u64 (hi u), .int .u64 (lo u)] 24)) => ex.get c3
  have x4 := fun ex : Ext ((w.alloc (.cells #[.int .i64 W, .int .u64 (hi v), .int .u64 (lo v)] 24)).alloc (.cells #[.int .i64 X, .int .u64 (hi u), .int .u64 (lo u)] 24)) => ex.get c4
  have x5 := fun ex : Ext ((w.alloc (.cells #[.int .i64 W, .int .u64 (hi v), .int .u64 (lo v)] 24)).alloc (.cells #[.int .i64 X, .int .u64 (hi u), .int .u64 (lo u)] 24)) => ex.get c5
  clear hu hr b1 b2 c0 c1 c2 c3 c4 c5 v0 v1 u0 u1
  go_enter Try.func3, Try.ntmps3
  go_wp2_with fail
  refine wp_region_ext (by kernel_rfl) (by kernel_rfl) ?_
  repeat (go_big_quiet_step (first
    | (go_at_call 4; exact ext_of (HA.out _))
    | (go_at_call 5; exact ext_of (HU.out _))
    | (go_at_call 6; exact ext_of (HR.out _))))
  refine wpQuiet_nil ?_
  intro w5 hw5
  obtain ⟨y5, rfl⟩ := hw5
  have HF := Lib.hid ((((Fr.refl w).alloc _).alloc _).call y5.fr)
  go_wp2
  go_ret
  exact ⟨ret_bool (by simp), HF.out⟩
end
section
open Go.ChangeShapes Go.WideShapes Go.ChangeAt Go.RowKit Go.Joins

theorem int_of_wf {n : Int} (h : (Lit.int .i64 n).wf = true) : -9223372036854775808 ≤ n ∧ n ≤ 9223372036854775807 := by
  simp [Lit.wf, IntKind.min, IntKind.max, IntKind.signed, IntKind.bits] at h
  exact ⟨by omega, by omega⟩
set_option maxHeartbeats 1600000 in
set_option maxRecDepth 100000 in
theorem bvecBins_lifted (os : Os) (started : os.Started) (H : Type) (enc : TypeId × Value → H) :
    ReturnsInHanded {} Try.checked os 3 .any (Rows.bvecBinsSpec.pre6 enc Try.prog Try.f3 Rows.bvecBinsRow.domain false) (Rows.bvecBinsSpec.post enc Try.prog Try.f3 false true false false) := by
  refine returnsInHanded_of_change (C := Try.checked) Try.own started (by kernel_rfl) Try.func3
    (ChangeSpec.witness6 (enc := enc) (C := Try.checked) false ⟨#[], #[.int .i64 0, .agg #[.int .i64 0, .int .u64 0, .int .u64 0], .agg #[.int .i64 0, .int .u64 0, .int .u64 0]], []⟩ 8 (by kernel_rfl) (by kernel_rfl) (by kernel_rfl) (by kernel_rfl)) ?_
  intro W base args ds gs before hval0 hW hcnd _
  have hval : ∀ (j : Nat) t v, Try.f3.params[j]? = some t → args[j]? = some v → Value.okWide Try.prog W .any base t v := hval0
  have hW' := hW
  obtain ⟨p, q, hA0, hV, rfl, hfz, hnd⟩ := hW
  have hA : DataW.TrodAll enc Try.prog W 0 (fun _ => true) true Try.f3.params.toList args.toList ds p := hA0
  rw [Try.params3] at hA hval
  obtain ⟨v0, v1, v2, d0, d1, d2, p0, p1, p2, rfl, rfl, rfl, h0, h1, h2⟩ := trodAll_three hA
  obtain ⟨rfl, rfl⟩ := trodVars_none hV
  obtain ⟨op, rfl, rfl, rfl, wf0⟩ := open_int Try.underlying3 (hval 0 3 v0 rfl rfl) h0
  obtain ⟨wl0, wu0⟩ := int_of_wf wf0
  obtain ⟨B, x, rfl, rfl, lo1, up1, wl1, wu1, k1⟩ := open_bits (hval 1 24 v1 rfl rfl) h1
  obtain ⟨C, z, rfl, rfl, lo2, up2, wl2, wu2, k2⟩ := open_bits (hval 2 24 v2 rfl rfl) h2
  clear hA0 hval0
  simp only [List.append_nil] at hW'
  refine (bins_walk op B x C z lo1 up1 lo2 up2 W).mono fun e W' ⟨he, hw⟩ => ?_
  subst he
  exact ⟨_, rfl, law_post (gs := []) hW' hw (fun _ _ _ => trodAll_mk1 (shut_bool Try.underlying4 _)) (fun sp _ => trodAll_mk3 (shut_int Try.underlying3 wf0) (k1 _ sp) (k2 _ sp)) (fun _ => rfl)⟩
theorem bvecBins_holds : Rows.BvecBinsSaid :=
  OpenClaim.holds_of_wide 3 Try.f3 rfl rfl rfl rfl rfl rfl rfl ⟨rfl, rfl, rfl, rfl, rfl⟩ rfl rfl rfl rfl rfl (by kernel_rfl) Try.func3 (by kernel_rfl)
    (of_decide_eq_true (by kernel_rfl)) (by unfold Func.isWrapper; first | (rw [if_pos (by decide +kernel)]; kernel_rfl) | (rw [if_neg (by decide +kernel)]; exact ⟨rfl, rfl⟩))
    (fun os started H enc _ => bvecBins_lifted os started H enc)
#print axioms bvecBins_holds
end
end Go.Proofs.Ytglgbhlnfafhjaa
