/- The reader's tree at a token that is a tree by itself. -/
import Derived.Test.YtcndmiolaheaeaaGreatDoorKSq
namespace Go.Proofs.YtcndmiolaheaeaaGreatDoor
open Go.RowKit
set_option linter.unusedSimpArgs false
set_option linter.unusedVariables false

theorem Bk.set4 {w : World} {g : Nat} {t : TypeId} {a b c d : Value} (h : Bk w g t #[a, b, c, d]) (x0 x1 x2 x3 : Value) : Bk ((((w.setCell ⟨g, 0, none⟩ x0).setCell ⟨g, 1, none⟩ x1).setCell ⟨g, 2, none⟩ x2).setCell ⟨g, 3, none⟩ x3) g t #[x0, x1, x2, x3] := (((h.set 0 x0).set 1 x1).set 2 x2).set 3 x3
theorem Bk.far4 {w : World} {g' : Nat} {t : TypeId} {cs : Array Value} {g : Nat} (h : Bk w g' t cs) (hn : g' ≠ g) (x0 x1 x2 x3 : Value) : Bk ((((w.setCell ⟨g, 0, none⟩ x0).setCell ⟨g, 1, none⟩ x1).setCell ⟨g, 2, none⟩ x2).setCell ⟨g, 3, none⟩ x3) g' t cs := by
  unfold Bk at *; rw [heap_set4 _ _ _ hn]; exact h
theorem Wr.set4 {p : Nat} {a b : World} (h : Wr p a b) {g : Nat} (hg : a.heap.size ≤ g) (x0 x1 x2 x3 : Value) : Wr p a ((((b.setCell ⟨g, 0, none⟩ x0).setCell ⟨g, 1, none⟩ x1).setCell ⟨g, 2, none⟩ x2).setCell ⟨g, 3, none⟩ x3) :=
  (((h.setn (q := ⟨g, 0, none⟩) hg x0).setn (q := ⟨g, 1, none⟩) hg x1).setn (q := ⟨g, 2, none⟩) hg x2).setn (q := ⟨g, 3, none⟩) hg x3
end Go.Proofs.YtcndmiolaheaeaaGreatDoor
