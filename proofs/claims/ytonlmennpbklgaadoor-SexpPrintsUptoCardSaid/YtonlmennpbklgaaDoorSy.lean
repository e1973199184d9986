/- The deferred closure in a frame that panics. -/
import Derived.Test.YtonlmennpbklgaaDoorSz
import Derived.RegionTactic
namespace Go.Proofs.YtonlmennpbklgaaDoor
open Go.RowKit
set_option linter.unusedSimpArgs false
set_option linter.unusedVariables false

theorem ta_hit (a er : Int) (w : World) : (Instr.typeAssert (.iface 45 (.agg #[.int .i64 a, .int .i64 er])) 20 45 true).run Tryd.prog w = .ok (.tuple #[.agg #[.int .i64 a, .int .i64 er], .bool true]) w := by kernel_rfl
theorem frame15 (a b c : Value) : (#[a, b, c] ++ Array.replicate 12 undef : Array Value) = #[a, b, c, undef, undef, undef, undef, undef, undef, undef, undef, undef, undef, undef, undef] := rfl
set_option maxRecDepth 100000 in
set_option maxHeartbeats 6400000 in
theorem catch_pan : CatchPan := by
  intro b0 b1 b2 a er x1 x2 v0 older w h0 h1 h2 h01 h02 h12
  have c0 : w.cell? ⟨b0, 0, none⟩ = some v0 := h0.cell 0
  have c1 : w.cell? ⟨b1, 0, none⟩ = some (.int .i64 x1) := h1.cell 0
  have c2 : w.cell? ⟨b2, 0, none⟩ = some (.int .i64 x2) := h2.cell 0
  have f0 := h0.free 0
  have f1 := h1.free 0
  have f2 := h2.free 0
  have l0 := h0.lt
  have l1 := h1.lt
  have l2 := h2.lt
  have fq : Fr ((((w.setCell ⟨b0, 0, none⟩ (.slice none 0 0)).setCell ⟨b1, 0, none⟩ (.int .i64 a)).setCell ⟨b2, 0, none⟩ (.int .i64 er))) (((((w.setCell ⟨b0, 0, none⟩ (.slice none 0 0)).setCell ⟨b1, 0, none⟩ (.int .i64 a)).setCell ⟨b2, 0, none⟩ (.int .i64 er)).alloc (.cells #[.int .i64 a, .int .i64 er] 45)).drew) := ((Fr.refl _).alloc _).drew
  have K0 := Lib.hid ((((h0.set 0 (.slice none 0 0)).far (p := ⟨b1, 0, none⟩) h01 (.int .i64 a)).far (p := ⟨b2, 0, none⟩) h02 (.int .i64 er)).fr fq)
  have K1 := Lib.hid ((((h1.far (p := ⟨b0, 0, none⟩) h01.symm (.slice none 0 0)).set 0 (.int .i64 a)).far (p := ⟨b2, 0, none⟩) h12 (.int .i64 er)).fr fq)
  have K2 := Lib.hid ((((h2.far (p := ⟨b0, 0, none⟩) h02.symm (.slice none 0 0)).far (p := ⟨b1, 0, none⟩) h12.symm (.int .i64 a)).set 0 (.int .i64 er)).fr fq)
  have KF := Lib.hid (show ∀ (W : World), Fr W w → W.heap.size ≤ b0 → W.heap.size ≤ b1 → W.heap.size ≤ b2 → Fr W (((((w.setCell ⟨b0, 0, none⟩ (.slice none 0 0)).setCell ⟨b1, 0, none⟩ (.int .i64 a)).setCell ⟨b2, 0, none⟩ (.int .i64 er)).alloc (.cells #[.int .i64 a, .int .i64 er] 45)).drew) from fun W h e0 e1 e2 => ((h.set (p := ⟨b0, 0, none⟩) e0 _).set (p := ⟨b1, 0, none⟩) e1 _ |>.set (p := ⟨b2, 0, none⟩) e2 _).call fq)
  clear fq
  clear h0 h1 h2
  refine callsD_of_wpS Tryd.func14 rfl fun c₀ cs hu => ?_
  rw [show Tryd.f14.ntmps - (#[Value.pointer (some ⟨b0, 0, none⟩), .pointer (some ⟨b1, 0, none⟩), .pointer (some ⟨b2, 0, none⟩)] : Array Value).size = 12 by rw [Tryd.ntmps14]; rfl, frame15]
  apply wpS_seq
  apply wpS_region
  simp [wpOpsS, go_sem, recoverD, hu, Exit.thenS, ta_hit]
  apply wpS_seq
  apply wpS_region
  simp [wpOpsS, go_sem, Exit.thenS]
  refine wpS_cond (t := true) (by simp [Act.eval]) ?_
  simp only [if_true]
  refine wpS_of_wp ?_
  have HU := Lib.hid hu
  clear hu
  go_region
  all_goals
    have k0 := K0.out
    have k1 := K1.out
    have k2 := K2.out
    have kf := KF.out
    clear K0 K1 K2 KF c0 c1 c2 f0 f1 f2 HU
    cases c₀
    simp [bodyPostS, results, Tryd.results14]
    exact ⟨k0, k1, k2, kf⟩
end Go.Proofs.YtonlmennpbklgaaDoor
