/- SexpTwice's tied card. -/
import Derived.Test.YtonlmennpbklgaaDoorTx
import Derived.Test.YtonlmennpbklgaaDoorTie
import Derived.Test.YtonlmennpbklgaaDoorCards
import Derived.SevenTiedAt
namespace Go.Proofs.YtonlmennpbklgaaDoor
open Go
set_option linter.unusedSimpArgs false
set_option linter.unusedVariables false

theorem sexpTwice_card : Rows.SexpTwiceCardSaid :=
  Claim7.holds_tied_plain_at .later [] [.data, .data, .data, .sentinel, .sentinel] true (true, "5ff8be9517cb05dcda7db89087f35bff1a38bd214afaf6f207cba69cb8e2d556") true
    sexpTwice_holds (fun _ h => by cases h) (by kernel_rfl) (fun _ h => by cases h) sexpTwice_row_tie rfl ⟨rfl, rfl⟩ (by kernel_rfl) rfl
    (fun f fn hf hfn => by
      obtain rfl : f = 5 := Option.some.inj ((show Tryd.prog.funcNamed "dovetail/dovetaillaw03.SexpTwice" = some 5 by kernel_rfl).symm.trans hf) |>.symm
      obtain rfl : fn = Tryd.f5 := (Option.some.inj (Tryd.func5.symm.trans hfn)).symm
      exact ⟨by kernel_rfl, fun j t ht => by
        rw [Tryd.params5] at ht
        have h0 : t = 9 := by
          rcases j with _ | j
          · simpa using ht.symm
          · simp at ht
        subst h0
        exact (show Tryd.prog.wantsStandIn 9 = false by kernel_rfl)⟩)
    (by kernel_rfl)
#print axioms sexpTwice_card
end Go.Proofs.YtonlmennpbklgaaDoor
