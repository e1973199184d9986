/- Atoi and Itoa, as the reader uses them. -/
import Derived.Test.YtonlmennpbklgaaDoorSfa
import Derived.Sort.Grow
namespace Go.Proofs.YtonlmennpbklgaaDoor
open Go.RowKit
set_option linter.unusedSimpArgs false
set_option linter.unusedVariables false

theorem fr_grow (w : World) (k : Nat) (os : Array Obj) : Fr w (Sort.grow (w.drewN k) os) := by
  refine ⟨rfl, rfl, rfl, ?_, fun i hi => ?_⟩
  · show w.heap.size ≤ (w.heap ++ os).size
    simp
  · show (w.heap ++ os)[i]? = w.heap[i]?
    rw [Array.getElem?_append_left hi]
theorem atoi_good (s : ByteArray) (v : Int) (hs : s.size ≤ 281474976710656) (h : Lib.atoiAll s.data.toList = .ok v) (w : World) :
    Calls Tryd.prog 51 #[.string s] w fun e w' => e = .returned (.tuple #[.int .i64 v, .nilIface]) ∧ Fr w w' :=
  (Tryd.strconv_Atoi_ok s (by omega) v h w).mono fun e w' ⟨he, hw⟩ => ⟨he, by
    rcases hw with rfl | ⟨t, rfl⟩
    · exact Fr.refl _
    · exact Lib.bytesWorld_below w _ t⟩
theorem atoi_bad (s : ByteArray) (hs : s.size ≤ 281474976710656) (h : ∀ v, Lib.atoiAll s.data.toList ≠ .ok v) (w : World) (hl : Laid w) :
    Calls Tryd.prog 51 #[.string s] w fun e w' => ∃ x N, e = .returned (.tuple #[.int .i64 x, .iface 96 (.pointer (some ⟨N, 0, none⟩))]) ∧ Fr w w' := by
  obtain ⟨⟨t, p, h1⟩, ⟨t', p', h2⟩, _⟩ := hl
  cases e : Lib.atoiAll s.data.toList with
  | ok v => exact absurd e (h v)
  | range => exact (Tryd.strconv_Atoi_range s hs e (.iface t' p') w h2 (Or.inr ⟨t', p', rfl⟩)).mono fun e w' ⟨N, he, _, _, hb⟩ => ⟨_, N, he, hb⟩
  | _ => exact (Tryd.strconv_Atoi_syntax s hs e (.iface t p) w h1 (Or.inr ⟨t, p, rfl⟩)).mono fun e w' ⟨N, he, _, _, hb⟩ => ⟨_, N, he, hb⟩
theorem itoa_any (n : Int) (h0 : -9223372036854775808 ≤ n) (h1 : n ≤ 9223372036854775807) (w : World) (hl : Laid w) :
    Calls Tryd.prog 33 #[.int .i64 n] w fun e w' => e = .returned (.string ⟨(Lib.itoa n).toArray⟩) ∧ Fr w w' :=
  (Tryd.strconv_Itoa n h0 h1 w hl.2.2).mono fun e w' ⟨he, k, os, hw⟩ => ⟨he, by rw [hw]; exact fr_grow w k os⟩
end Go.Proofs.YtonlmennpbklgaaDoor
