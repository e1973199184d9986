/- Parse, for whatever text. -/
import Derived.Test.YtonlmennpbklgaaDoorSbe
import Derived.Test.YtonlmennpbklgaaDoorSad
namespace Go.Proofs.YtonlmennpbklgaaDoor
open Go.RowKit
set_option linter.unusedSimpArgs false
set_option linter.unusedVariables false

/-- Parse, for whatever text. -/
def P1 (s : ByteArray) (w : World) (e : Ending) (w' : World) : Prop :=
  Fr w w' ∧ ((∃ (a : Nat) (er : Int), e = .returned (.tuple #[.slice none 0 0, .int .i64 (a : Int), .int .i64 er]) ∧ (er == 0) = false ∧ (er != 0) = true ∧ (s.size ≤ 262144 → run s.data.toList 0 [[]] 0 = .err a er)) ∨
    (∃ (l : List T) (A : Option Addr) (c : Nat), e = .returned (.tuple #[.slice A l.length c, .int .i64 0, .int .i64 0]) ∧ l.length ≤ c ∧ RdL w' (New w w') A l ∧ run s.data.toList 0 [[]] 0 = .ok l ∧ cntL l ≤ 65536))
theorem parse_one (s : ByteArray) (hs : s.size ≤ maxLen) (w : World) (hw5 : 5 < w.heap.size) (hla : Laid w) : Calls Tryd.prog 8 #[.string s] w fun e w' => P1 s w e w' := by
  by_cases h : s.size ≤ 262144
  · refine (parse_ps s w h hw5 hla).mono ?_
    rintro e w' ⟨hf, ⟨a, er, he, hr⟩ | ⟨l, A, c, he, hlc, hrd, hr⟩⟩
    · refine ⟨hf, .inl ⟨a, er, he, ?_⟩⟩
      rcases run_err hr with rfl | rfl <;> exact ⟨rfl, rfl, fun _ => hr⟩
    · exact ⟨hf, .inr ⟨l, A, c, he, hlc, hrd, hr, run_cnt hr⟩⟩
  · refine (parse_long s w (by omega) hs).mono ?_
    rintro e w' ⟨he, hf⟩
    exact ⟨hf, .inl ⟨0, 33, he, rfl, rfl, fun h' => absurd h' h⟩⟩
theorem New.lt {w w' : World} (b : Nat) (h : New w w' b) : b < w'.heap.size := h.2
end Go.Proofs.YtonlmennpbklgaaDoor
