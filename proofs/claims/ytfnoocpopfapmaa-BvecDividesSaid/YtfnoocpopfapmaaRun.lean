/- The document's Un. -/
import Derived.Test.YtfnoocpopfapmaaRneg
namespace Go.Proofs.Ytfnoocpopfapmaa
open Go.RowKit

/-- Bits boxed, a result laid: both as they were, whatever is called. -/
theorem box_res (w : World) (a b c : Value) :
    Bk ((w.alloc (.cells #[a, b, c] 24)).alloc (.cells #[.int .i64 0, .int .u64 0, .int .u64 0] 24)) w.heap.size 24 #[a, b, c] ∧
    Bk ((w.alloc (.cells #[a, b, c] 24)).alloc (.cells #[.int .i64 0, .int .u64 0, .int .u64 0] 24)) (w.heap.size + 1) 24 #[.int .i64 0, .int .u64 0, .int .u64 0] := by
  refine ⟨(Bk.new w _ _).fr ((Fr.refl _).alloc _), ?_⟩
  have h := Bk.new (w.alloc (.cells #[a, b, c] 24)) 24 #[.int .i64 0, .int .u64 0, .int .u64 0]
  rw [show (w.alloc (.cells #[a, b, c] 24)).heap.size = w.heap.size + 1 by simp] at h
  exact h
theorem Bk.three {w : World} {g : Nat} {t : TypeId} {a b c : Value} (h : Bk w g t #[a, b, c]) : w.cell? ⟨g, 0, none⟩ = some a ∧ w.cell? ⟨g, 1, none⟩ = some b ∧ w.cell? ⟨g, 2, none⟩ = some c := ⟨h.cell 0, h.cell 1, h.cell 2⟩
theorem Bk.frees {w : World} {g : Nat} {t : TypeId} {cs : Array Value} (h : Bk w g t cs) : w.frozen? ⟨g, 0, none⟩ = false ∧ w.frozen? ⟨g, 1, none⟩ = false ∧ w.frozen? ⟨g, 2, none⟩ = false := ⟨h.free 0, h.free 1, h.free 2⟩
set_option maxHeartbeats 3200000 in
set_option maxRecDepth 10000 in
theorem run_bad (op W v : Int) (v0 : 0 ≤ v) (v1 : v < 340282366920938463463374607431768211456) (h : normB W v = false) (w : World) :
    Calls Try.prog 12 #[.int .i64 op, bv W v] w fun e w' => e = .returned (bv 0 0) ∧ Fr w w' := by
  have HN := Lib.hid (fun wx => rnormal_any W v v0 v1 wx)
  rw [h] at HN
  obtain ⟨b1, b2⟩ := box_res w (.int .i64 W) (.int .u64 (hi v)) (.int .u64 (lo v))
  have B1 := Lib.hid b1
  have B2 := Lib.hid b2
  clear h b1 b2 v0 v1
  go_enter Try.func12, Try.ntmps12
  go_wp2_with (first
    | (go_at_call 14
       refine (HN.out _).mono ?_
       rintro e w1 ⟨rfl, hf⟩
       have HF1 := Lib.hid hf
       obtain ⟨c0, c1, c2⟩ := (B1.out.fr hf).three
       obtain ⟨d0, d1, d2⟩ := (B2.out.fr hf).three
       obtain ⟨f0, f1, f2⟩ := (B2.out.fr hf).frees
       clear hf))
  have HF := Lib.hid ((((Fr.refl w).alloc _).alloc _).call HF1.out)
  exact bodyPost_ret (v := bv 0 0) (by simp [results, Try.results12, go_sem, hi_zero, lo_zero, *]) rfl ⟨rfl, by repeat (first | with_reducible exact HF.out | (with_reducible refine Fr.set ?_ (by simp) _))⟩
end Go.Proofs.Ytfnoocpopfapmaa
