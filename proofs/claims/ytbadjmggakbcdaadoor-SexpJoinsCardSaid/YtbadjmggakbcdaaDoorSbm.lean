/- SexpJoins' tied card. -/
import Derived.Test.YtbadjmggakbcdaaDoorSbl
import Derived.Test.YtbadjmggakbcdaaDoorTie
import Derived.Test.YtbadjmggakbcdaaDoorCards
import Derived.SevenTiedAt
namespace Go.Proofs.YtbadjmggakbcdaaDoor
open Go

theorem sexpJoins_card : Rows.SexpJoinsCardSaid :=
  Claim7.holds_tied_plain_at .later [] [.data, .data, .data, .sentinel, .sentinel] true (true, "bc478310be5371ebcbdc119d6855910675da135e8274e7b2df5ab9afa674c9c6") true
    sexpJoins_holds (fun _ h => by cases h) (by kernel_rfl) (fun _ h => by cases h) sexpJoins_row_tie rfl ⟨rfl, rfl⟩ (by kernel_rfl) rfl
    (fun f fn hf hfn => by
      obtain rfl : f = 7 := Option.some.inj ((show Tryd.prog.funcNamed "dovetail/dovetaillaw03.SexpJoins" = some 7 by kernel_rfl).symm.trans hf) |>.symm
      obtain rfl : fn = Tryd.f7 := (Option.some.inj (Tryd.func7.symm.trans hfn)).symm
      exact ⟨by kernel_rfl, fun j t ht => by
        rw [Tryd.params7] at ht
        have h0 : t = 9 := by
          rcases j with _ | j
          · simpa using ht.symm
          · rcases j with _ | j
            · simpa using ht.symm
            · simp at ht
        subst h0
        exact (show Tryd.prog.wantsStandIn 9 = false by kernel_rfl)⟩)
    (by kernel_rfl)
#print axioms sexpJoins_card
end Go.Proofs.YtbadjmggakbcdaaDoor
