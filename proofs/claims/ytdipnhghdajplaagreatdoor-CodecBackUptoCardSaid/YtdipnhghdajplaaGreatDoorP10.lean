/- The reader's trees. The reader's Parse: the walk. -/
import Derived.Test.YtdipnhghdajplaaGreatDoorP00
import Derived.BigGuardPart
import Derived.Recover
namespace Go.Proofs.YtdipnhghdajplaaGreatDoor
open Go.RowKit
set_option linter.unusedSimpArgs false
set_option linter.unusedVariables false
end Go.Proofs.YtdipnhghdajplaaGreatDoor
namespace Go.Proofs.YtdipnhghdajplaaGreatDoor
open Go.RowKit
set_option linter.unusedSimpArgs false
set_option linter.unusedVariables false
def PsPost (s : ByteArray) (w : World) (e : Ending) (w' : World) : Prop :=
 Fr w w' ∧ ((∃ (a : Nat) (er : Int), e = .returned (.tuple #[.slice none 0 0, .int .i64 (a : Int), .int .i64 er]) ∧ run s.data.toList 0 [[]] 0 = .err a er) ∨
   (∃ (l : List T) (A : Option Addr) (c : Nat), e = .returned (.tuple #[.slice A l.length c, .int .i64 0, .int .i64 0]) ∧ l.length ≤ c ∧ RdL w' (New w w') A l ∧ run s.data.toList 0 [[]] 0 = .ok l))
end Go.Proofs.YtdipnhghdajplaaGreatDoor
