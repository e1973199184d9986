/- Bytes and pairs of numbers that came in: what they are. -/
import Derived.Test.YtoookfhaeojfiaaLawp
import Derived.Test.YtoookfhaeojfiaaGet
import Derived.WideKeyPair
import Derived.SizedLaws
namespace Go.Proofs.Ytoookfhaeojfiaa
open Go.ChangeShapes Go.WideShapes Go.ChangeAt Go.RowKit Go.Joins

theorem Try.cells5 : Try.prog.cellsOf 5 = 1 := by kernel_rfl
theorem Try.bytes5 : Try.prog.bytesOf 5 = 1 := by kernel_rfl
/-- Bytes that came in read as a list. -/
theorem open_bytes {H : Type} {enc : TypeId × Value → H} {W : World} {b0 : Nat} {v : Value} {d : DataW H} {p : List MemPlace}
    (hv : Value.okWide Try.prog W .any b0 22 v) (h : DataW.Trod enc Try.prog W 0 (fun _ => true) true 22 v d p) (hlt : ∀ x ∈ p, x.block < W.heap.size) :
    ∃ A c l, v = .slice A l.length c ∧ By l ∧ l.length ≤ c ∧ c ≤ maxLen ∧ Rd u8v W A l ∧ ((∃ es sp, d = .slice es sp ∧ es.length = l.length) ∨ l = []) := by
  obtain ⟨a0, len, cap, rfl⟩ := okWide_slice Try.underlying22 hv
  obtain ⟨fuel, hf⟩ := h
  rcases open_ints Try.underlying22 Try.underlying5 Try.cells5 hf with ⟨hcs, hx⟩ | ⟨a, len', cap', zs, hcs, _, hl, hm, hz, hx, hcell, hwz⟩
  · simp [Value.cells] at hcs
    obtain ⟨rfl, rfl, rfl⟩ := hcs
    exact ⟨none, 0, [], rfl, By.nil, Nat.le_refl _, Nat.zero_le _, Rd.nil, .inr rfl⟩
  · simp [Value.cells] at hcs
    obtain ⟨rfl, rfl, rfl⟩ := hcs
    simp only [Prod.mk.injEq] at hx
    obtain ⟨rfl, rfl⟩ := hx
    simp only [if_true] at hz
    have el : (zs.take len).length = len := by rw [List.length_take]; omega
    refine ⟨some a, cap, zs.take len, by rw [el], fun x hx => byte_of_wf (hwz x (List.mem_of_mem_take hx)), by omega, hm, fun h0 => ?_, .inl ⟨_, _, rfl, by simp [lits]⟩⟩
    obtain ⟨b, off, spot⟩ := a
    have hspot : spot = none := by simpa [Addr.add] using World.cell?_spot (hcell 0 (by omega))
    subst hspot
    refine ⟨b, off, rfl, hlt (.cell b off) (MemPlace.mem_row.2 ⟨0, by omega, by simp⟩), fun i hi => ?_⟩
    have := hcell i (by omega)
    rw [add_plain] at this
    rw [this, List.getD, List.getElem?_eq_getElem (by omega), List.getElem_take]; rfl
theorem Try.pairKey : Go.WideMaps.ArrKey Try.prog 23 3 2 := by
  constructor <;> kernel_rfl
end Go.Proofs.Ytoookfhaeojfiaa
