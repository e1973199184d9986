/- The reader's Parse: the walk. -/
import Derived.Test.YtcndmiolaheaeaaGreatDoorKSx
import Derived.Recover
namespace Go.Proofs.YtcndmiolaheaeaaGreatDoor
open Go.RowKit
set_option linter.unusedSimpArgs false
set_option linter.unusedVariables false

/-- What Parse answers: the machine's trees, or its place and error. -/
def PsPost (s : ByteArray) (w : World) (e : Ending) (w' : World) : Prop :=
  Fr w w' ∧ ((∃ (a : Nat) (er : Int), e = .returned (.tuple #[.slice none 0 0, .int .i64 (a : Int), .int .i64 er]) ∧ run s.data.toList 0 [[]] 0 = .err a er) ∨
    (∃ (l : List T) (A : Option Addr) (c : Nat), e = .returned (.tuple #[.slice A l.length c, .int .i64 0, .int .i64 0]) ∧ l.length ≤ c ∧ RdL w' (New w w') A l ∧ run s.data.toList 0 [[]] 0 = .ok l))
theorem psB (w : World) : Bk (((w.alloc (.cells #[.slice none 0 0] 107)).alloc (.cells #[.int .i64 0] 3)).alloc (.cells #[.int .i64 0] 43)) w.heap.size 107 #[.slice none 0 0] ∧ Bk (((w.alloc (.cells #[.slice none 0 0] 107)).alloc (.cells #[.int .i64 0] 3)).alloc (.cells #[.int .i64 0] 43)) (w.heap.size + 1) 3 #[.int .i64 0] ∧ Bk (((w.alloc (.cells #[.slice none 0 0] 107)).alloc (.cells #[.int .i64 0] 3)).alloc (.cells #[.int .i64 0] 43)) (w.heap.size + 1 + 1) 43 #[.int .i64 0] := by
  have h1 := Bk.new w 107 #[.slice none 0 0]
  have h2 := Bk.new (w.alloc (.cells #[.slice none 0 0] 107)) 3 #[.int .i64 0]
  have h3 := Bk.new ((w.alloc (.cells #[.slice none 0 0] 107)).alloc (.cells #[.int .i64 0] 3)) 43 #[.int .i64 0]
  rw [show (w.alloc (.cells #[.slice none 0 0] 107)).heap.size = w.heap.size + 1 by simp] at h2
  rw [show ((w.alloc (.cells #[.slice none 0 0] 107)).alloc (.cells #[.int .i64 0] 3)).heap.size = w.heap.size + 1 + 1 by simp] at h3
  exact ⟨(h1.alloc _).alloc _, h2.alloc _, h3⟩
end Go.Proofs.YtcndmiolaheaeaaGreatDoor
