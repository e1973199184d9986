/- SexpWrapped's tied card. -/
import Derived.Test.YtbadjmggakbcdaaDoorSbg
import Derived.Test.YtbadjmggakbcdaaDoorTie
import Derived.Test.YtbadjmggakbcdaaDoorCards
import Derived.SevenTiedAt
namespace Go.Proofs.YtbadjmggakbcdaaDoor
open Go

theorem sexpWrapped_card : Rows.SexpWrappedCardSaid :=
  Claim7.holds_tied_plain_at .later [] [.data, .data, .data, .sentinel, .sentinel] true (true, "bc478310be5371ebcbdc119d6855910675da135e8274e7b2df5ab9afa674c9c6") true
    sexpWrapped_holds (fun _ h => by cases h) (by kernel_rfl) (fun _ h => by cases h) sexpWrapped_row_tie rfl ⟨rfl, rfl⟩ (by kernel_rfl) rfl
    (fun f fn hf hfn => by
      obtain rfl : f = 8 := Option.some.inj ((show Tryd.prog.funcNamed "dovetail/dovetaillaw03.SexpWrapped" = some 8 by kernel_rfl).symm.trans hf) |>.symm
      obtain rfl : fn = Tryd.f8 := (Option.some.inj (Tryd.func8.symm.trans hfn)).symm
      exact ⟨by kernel_rfl, fun j t ht => by
        rw [Tryd.params8] at ht
        have h0 : t = 9 := by
          rcases j with _ | j
          · simpa using ht.symm
          · simp at ht
        subst h0
        exact (show Tryd.prog.wantsStandIn 9 = false by kernel_rfl)⟩)
    (by kernel_rfl)
#print axioms sexpWrapped_card
end Go.Proofs.YtbadjmggakbcdaaDoor
