/- A row of the call's own: stores into it; two boxes and a result. -/
import Derived.Test.YtglgbhlnfafhjaaRneg
import Derived.Test.YtglgbhlnfafhjaaNumc
namespace Go.Proofs.Ytglgbhlnfafhjaa
open Go.RowKit

/-- Bits boxed, a result laid: both as they were, whatever is called. -/
theorem box_res (w : World) (a b c : Value) :
    Bk ((w.alloc (.cells #[a, b, c] 24)).alloc (.cells #[.int .i64 0, .int .u64 0, .int .u64 0] 24)) w.heap.size 24 #[a, b, c] ∧
    Bk ((w.alloc (.cells #[a, b, c] 24)).alloc (.cells #[.int .i64 0, .int .u64 0, .int .u64 0] 24)) (w.heap.size + 1) 24 #[.int .i64 0, .int .u64 0, .int .u64 0] := by
  refine ⟨(Bk.new w _ _).fr ((Fr.refl _).alloc _), ?_⟩
  have h := Bk.new (w.alloc (.cells #[a, b, c] 24)) 24 #[.int .i64 0, .int .u64 0, .int .u64 0]
  rw [show (w.alloc (.cells #[a, b, c] 24)).heap.size = w.heap.size + 1 by simp] at h
  exact h
theorem Bk.three {w : World} {g : Nat} {t : TypeId} {a b c : Value} (h : Bk w g t #[a, b, c]) : w.cell? ⟨g, 0, none⟩ = some a ∧ w.cell? ⟨g, 1, none⟩ = some b ∧ w.cell? ⟨g, 2, none⟩ = some c := ⟨h.cell 0, h.cell 1, h.cell 2⟩
theorem Bk.frees {w : World} {g : Nat} {t : TypeId} {cs : Array Value} (h : Bk w g t cs) : w.frozen? ⟨g, 0, none⟩ = false ∧ w.frozen? ⟨g, 1, none⟩ = false ∧ w.frozen? ⟨g, 2, none⟩ = false := ⟨h.free 0, h.free 1, h.free 2⟩
section
variable {α : Type} {f : α → Value} {w : World} {base n c : Nat} {e : TypeId} {A : Option Addr} {l : List α}
theorem Own.block (h : Own f w base e (.slice A n c) l) (hl : l.length = n) (hn : 0 < n) : ∃ g, A = some ⟨g, 0, none⟩ ∧ base ≤ g ∧ g < w.heap.size := by
  unfold Own at h
  rw [hl] at h
  obtain ⟨g, cap, hv, hb, hlt⟩ := World.ownsRow.form h hn
  injection hv with e1 e2 e3
  exact ⟨g, e1, hb, hlt⟩
theorem Own.thaw {g : Nat} (h : Own f w base e (.slice (some ⟨g, 0, none⟩) n c) l) (hl : l.length = n) (j : Nat) : w.frozen? ⟨g, j, none⟩ = false := by
  unfold Own at h
  rw [hl] at h
  exact World.ownsRow.frozenAt h j
theorem Own.store {g : Nat} (h : Own f w base e (.slice (some ⟨g, 0, none⟩) n c) l) (hl : l.length = n) (j : Nat) (x : α) : Own f (w.setCell ⟨g, j, none⟩ (f x)) base e (.slice (some ⟨g, 0, none⟩) n c) (l.set j x) := by
  unfold Own at h ⊢
  rw [hl] at h
  rw [List.length_set, hl, List.map_set]
  exact (World.ownsRow.stored h j (f x)).1
theorem Own.rd (h : Own f w base e (.slice A n c) l) (hl : l.length = n) : Rd f w A l := by
  subst hl
  exact Rd.of_own h
theorem Rd.store {A : Option Addr} (h : Rd f w A l) {g : Nat} (hg : ∀ k o, A = some ⟨k, o, none⟩ → k ≠ g) (j : Nat) (u : Value) : Rd f (w.setCell ⟨g, j, none⟩ u) A l := fun hl => by
  obtain ⟨k, o, e, hk, hc⟩ := h hl
  refine ⟨k, o, e, by simpa using hk, fun i hi => ?_⟩
  rw [World.cell?_setCell_other w _ _ _ (fun h => hg k o e (by injection h with h; exact h.symm))]
  exact hc i hi
end
theorem bitI_nat (m t : Nat) : bitI (m : Int) t = m.testBit t := by
  unfold bitI
  have e : ((2 ^ t : Nat) : Int) = (2 : Int) ^ t := by simp
  rw [← e, Nat.testBit_eq_decide_div_mod_eq]
  refine decide_eq_decide.2 ?_
  omega
theorem box_two (w : World) (a b c d e f : Value) :
    Bk (((w.alloc (.cells #[a, b, c] 24)).alloc (.cells #[d, e, f] 24)).alloc (.cells #[.int .i64 0, .int .u64 0, .int .u64 0] 24)) w.heap.size 24 #[a, b, c] ∧
    Bk (((w.alloc (.cells #[a, b, c] 24)).alloc (.cells #[d, e, f] 24)).alloc (.cells #[.int .i64 0, .int .u64 0, .int .u64 0] 24)) (w.heap.size + 1) 24 #[d, e, f] ∧
    Bk (((w.alloc (.cells #[a, b, c] 24)).alloc (.cells #[d, e, f] 24)).alloc (.cells #[.int .i64 0, .int .u64 0, .int .u64 0] 24)) (w.heap.size + 1 + 1) 24 #[.int .i64 0, .int .u64 0, .int .u64 0] := by
  refine ⟨((Bk.new w _ _).fr ((Fr.refl _).alloc _)).fr ((Fr.refl _).alloc _), ?_, ?_⟩
  · have h := Bk.new (w.alloc (.cells #[a, b, c] 24)) 24 #[d, e, f]
    rw [show (w.alloc (.cells #[a, b, c] 24)).heap.size = w.heap.size + 1 by simp] at h
    exact h.fr ((Fr.refl _).alloc _)
  · have h := Bk.new ((w.alloc (.cells #[a, b, c] 24)).alloc (.cells #[d, e, f] 24)) 24 #[.int .i64 0, .int .u64 0, .int .u64 0]
    rw [show ((w.alloc (.cells #[a, b, c] 24)).alloc (.cells #[d, e, f] 24)).heap.size = w.heap.size + 1 + 1 by simp] at h
    exact h
end Go.Proofs.Ytglgbhlnfafhjaa
