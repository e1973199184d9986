/- The reader's trees. -/
import Derived.Test.YtcndmiolaheaeaaGreatDoorKSv
import Derived.BigGuardPart
namespace Go.Proofs.YtcndmiolaheaeaaGreatDoor
open Go.RowKit
set_option linter.unusedSimpArgs false
set_option linter.unusedVariables false

theorem nb_of {c : UInt8} {r : List UInt8} (h : skN false (c :: r) = 0) : Nb c := by
  by_cases h1 : c.toNat = 32 ∨ c.toNat = 10
  · rw [skN, if_pos h1] at h; omega
  · by_cases h2 : c.toNat = 59
    · rw [skN, if_neg h1, if_pos h2] at h; omega
    · exact ⟨h1, h2⟩
theorem Wr.grown {p : Nat} {a b c : World} {row : Option Nat} (h : Wr p a b) (hg : b.grownBy c row) (hr : ∀ k, row = some k → a.heap.size ≤ k) : Wr p a c :=
  ⟨hg.os.trans h.os, hg.tape.trans h.tape, hg.output.trans h.output, Nat.le_trans h.size hg.size, fun i hi hn => (hg.block i (Nat.lt_of_lt_of_le hi h.size) (fun e => by have := hr i e.symm; omega)).trans (World.grownBy.block h i hi hn)⟩
theorem news4 (w : World) (x0 x1 x2 x3 : Value) (j : Nat) (u : Value) (h : [x0, x1, x2, x3][j]? = some u) : (w.alloc (.cells #[x0, x1, x2, x3] 113)).cell? ((⟨w.heap.size, 0, none⟩ : Addr).add j) = some u := by
  have e := Bk.cell (Bk.new w 113 #[x0, x1, x2, x3]) j
  rw [show (⟨w.heap.size, 0, none⟩ : Addr).add j = ⟨w.heap.size, j, none⟩ by unfold Addr.add; by_cases h0 : j = 0 <;> simp [h0], e]
  simpa using h
theorem sk_zero (s : ByteArray) (i : Nat) : skN false (s.data.toList.drop (i + skN false (s.data.toList.drop i))) = 0 := by
  have h := skN_idem false (s.data.toList.drop i)
  rwa [List.drop_drop] at h
theorem sk_le (s : ByteArray) (i : Nat) (hi : i ≤ s.size) : i + skN false (s.data.toList.drop i) ≤ s.size := by
  have h := skN_le false (s.data.toList.drop i)
  simp at h; omega
end Go.Proofs.YtcndmiolaheaeaaGreatDoor
