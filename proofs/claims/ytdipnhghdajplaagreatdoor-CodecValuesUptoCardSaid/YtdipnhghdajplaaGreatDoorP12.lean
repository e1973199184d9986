/- The reader's trees. The reader's Parse: the walk. -/
import Derived.Test.YtdipnhghdajplaaGreatDoorP03
import Derived.BigGuardPart
import Derived.Recover
namespace Go.Proofs.YtdipnhghdajplaaGreatDoor
open Go.RowKit
set_option linter.unusedSimpArgs false
set_option linter.unusedVariables false

theorem nb_of {c : UInt8} {r : List UInt8} (h : skN false (c :: r) = 0) : Nb c := by
  by_cases h1 : c.toNat = 32 ∨ c.toNat = 10
  · rw [skN, if_pos h1] at h; omega
  · by_cases h2 : c.toNat = 59
    · rw [skN, if_neg h1, if_pos h2] at h; omega
    · exact ⟨h1, h2⟩
theorem Wr.grown {p : Nat} {a b c : World} {row : Option Nat} (h : Wr p a b) (hg : b.grownBy c row) (hr : ∀ k, row = some k → a.heap.size ≤ k) : Wr p a c :=
  ⟨hg.os.trans h.os, hg.tape.trans h.tape, hg.output.trans h.output, Nat.le_trans h.size hg.size, fun i hi hn => (hg.block i (Nat.lt_of_lt_of_le hi h.size) (fun e => by have := hr i e.symm; omega)).trans (World.grownBy.block h i hi hn)⟩
theorem news4 (w : World) (x0 x1 x2 x3 : Value) (j : Nat) (u : Value) (h : [x0, x1, x2, x3][j]? = some u) : (w.alloc (.cells #[x0, x1, x2, x3] 144)).cell? ((⟨w.heap.size, 0, none⟩ : Addr).add j) = some u := by
  have e := Bk.cell (Bk.new w 144 #[x0, x1, x2, x3]) j
  rw [show (⟨w.heap.size, 0, none⟩ : Addr).add j = ⟨w.heap.size, j, none⟩ by unfold Addr.add; by_cases h0 : j = 0 <;> simp [h0], e]
  simpa using h
theorem sk_zero (s : ByteArray) (i : Nat) : skN false (s.data.toList.drop (i + skN false (s.data.toList.drop i))) = 0 := by
  have h := skN_idem false (s.data.toList.drop i)
  rwa [List.drop_drop] at h
theorem sk_le (s : ByteArray) (i : Nat) (hi : i ≤ s.size) : i + skN false (s.data.toList.drop i) ≤ s.size := by
  have h := skN_le false (s.data.toList.drop i)
  simp at h; omega
end Go.Proofs.YtdipnhghdajplaaGreatDoor
namespace Go.Proofs.YtdipnhghdajplaaGreatDoor
open Go.RowKit
set_option linter.unusedSimpArgs false
set_option linter.unusedVariables false

/-- What Parse answers: the machine's trees, or its place and error. -/
def PsPost (s : ByteArray) (w : World) (e : Ending) (w' : World) : Prop :=
  Fr w w' ∧ ((∃ (a : Nat) (er : Int), e = .returned (.tuple #[.slice none 0 0, .int .i64 (a : Int), .int .i64 er]) ∧ run s.data.toList 0 [[]] 0 = .err a er) ∨
    (∃ (l : List T) (A : Option Addr) (c : Nat), e = .returned (.tuple #[.slice A l.length c, .int .i64 0, .int .i64 0]) ∧ l.length ≤ c ∧ RdL w' (New w w') A l ∧ run s.data.toList 0 [[]] 0 = .ok l))
theorem psB (w : World) : Bk (((w.alloc (.cells #[.slice none 0 0] 138)).alloc (.cells #[.int .i64 0] 3)).alloc (.cells #[.int .i64 0] 36)) w.heap.size 138 #[.slice none 0 0] ∧ Bk (((w.alloc (.cells #[.slice none 0 0] 138)).alloc (.cells #[.int .i64 0] 3)).alloc (.cells #[.int .i64 0] 36)) (w.heap.size + 1) 3 #[.int .i64 0] ∧ Bk (((w.alloc (.cells #[.slice none 0 0] 138)).alloc (.cells #[.int .i64 0] 3)).alloc (.cells #[.int .i64 0] 36)) (w.heap.size + 1 + 1) 36 #[.int .i64 0] := by
  have h1 := Bk.new w 138 #[.slice none 0 0]
  have h2 := Bk.new (w.alloc (.cells #[.slice none 0 0] 138)) 3 #[.int .i64 0]
  have h3 := Bk.new ((w.alloc (.cells #[.slice none 0 0] 138)).alloc (.cells #[.int .i64 0] 3)) 36 #[.int .i64 0]
  rw [show (w.alloc (.cells #[.slice none 0 0] 138)).heap.size = w.heap.size + 1 by simp] at h2
  rw [show ((w.alloc (.cells #[.slice none 0 0] 138)).alloc (.cells #[.int .i64 0] 3)).heap.size = w.heap.size + 1 + 1 by simp] at h3
  exact ⟨(h1.alloc _).alloc _, h2.alloc _, h3⟩
end Go.Proofs.YtdipnhghdajplaaGreatDoor
