/- SexpNames' tied card. -/
import Derived.Test.YtbadjmggakbcdaaDoorSnl
import Derived.Test.YtbadjmggakbcdaaDoorTie
import Derived.Test.YtbadjmggakbcdaaDoorCards
import Derived.SevenTiedAt
namespace Go.Proofs.YtbadjmggakbcdaaDoor
open Go

theorem sexpNames_card : Rows.SexpNamesCardSaid :=
  Claim7.holds_tied_plain_at .later [] [.data, .data, .data, .sentinel, .sentinel] true (true, "bc478310be5371ebcbdc119d6855910675da135e8274e7b2df5ab9afa674c9c6") true
    sexpNames_holds (fun _ h => by cases h) (by kernel_rfl) (fun _ h => by cases h) sexpNames_row_tie rfl ⟨rfl, rfl⟩ (by kernel_rfl) rfl
    (fun f fn hf hfn => by
      obtain rfl : f = 3 := Option.some.inj ((show Tryd.prog.funcNamed "dovetail/dovetaillaw03.SexpNames" = some 3 by kernel_rfl).symm.trans hf) |>.symm
      obtain rfl : fn = Tryd.f3 := (Option.some.inj (Tryd.func3.symm.trans hfn)).symm
      exact ⟨by kernel_rfl, fun j t ht => by
        rw [Tryd.params3] at ht
        simp at ht⟩)
    (by kernel_rfl)
#print axioms sexpNames_card
end Go.Proofs.YtbadjmggakbcdaaDoor
