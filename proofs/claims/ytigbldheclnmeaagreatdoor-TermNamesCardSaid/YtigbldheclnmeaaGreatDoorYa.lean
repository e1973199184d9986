/- The toy's text, and its trees (layer 8). -/
import Derived.Test.YtigbldheclnmeaaGreatDoorEs
namespace Go.Proofs.YtigbldheclnmeaaGreatDoor
open Go.RowKit
set_option maxRecDepth 100000

def toyS : ByteArray := ⟨#[40, 105, 115, 97, 32, 116, 111, 121, 32, 119, 111, 114, 100, 41, 32, 40, 102, 105, 108, 101, 32, 120, 32, 52, 32, 56, 41, 32, 40, 99, 108, 97, 115, 115, 32, 114, 32, 114, 101, 103, 32, 120, 32, 50, 41, 32, 40, 102, 111, 114, 109, 32, 105, 110, 99, 32, 34, 105, 110, 99, 32, 100, 34, 32, 40, 40, 100, 32, 114, 41, 41, 32, 40, 46, 48, 48, 48, 49, 48, 49, 32, 100, 41, 32, 40, 40, 115, 101, 116, 32, 40, 120, 32, 100, 41, 32, 40, 97, 100, 100, 32, 40, 120, 32, 100, 41, 32, 40, 99, 32, 56, 32, 51, 41, 41, 41, 41, 41]⟩
def toyL : List T := [.node 4 ⟨#[]⟩ 0 [.node 1 ⟨#[105, 115, 97]⟩ 0 [], .node 1 ⟨#[116, 111, 121]⟩ 0 [], .node 1 ⟨#[119, 111, 114, 100]⟩ 0 []],
  .node 4 ⟨#[]⟩ 0 [.node 1 ⟨#[102, 105, 108, 101]⟩ 0 [], .node 1 ⟨#[120]⟩ 0 [], .node 2 ⟨#[]⟩ 4 [], .node 2 ⟨#[]⟩ 8 []],
  .node 4 ⟨#[]⟩ 0 [.node 1 ⟨#[99, 108, 97, 115, 115]⟩ 0 [], .node 1 ⟨#[114]⟩ 0 [], .node 1 ⟨#[114, 101, 103]⟩ 0 [], .node 1 ⟨#[120]⟩ 0 [], .node 2 ⟨#[]⟩ 2 []],
  .node 4 ⟨#[]⟩ 0 [.node 1 ⟨#[102, 111, 114, 109]⟩ 0 [], .node 1 ⟨#[105, 110, 99]⟩ 0 [], .node 3 ⟨#[105, 110, 99, 32, 100]⟩ 0 [], .node 4 ⟨#[]⟩ 0 [.node 4 ⟨#[]⟩ 0 [.node 1 ⟨#[100]⟩ 0 [], .node 1 ⟨#[114]⟩ 0 []]], .node 4 ⟨#[]⟩ 0 [.node 1 ⟨#[46, 48, 48, 48, 49, 48, 49]⟩ 0 [], .node 1 ⟨#[100]⟩ 0 []], .node 4 ⟨#[]⟩ 0 [.node 4 ⟨#[]⟩ 0 [.node 1 ⟨#[115, 101, 116]⟩ 0 [], .node 4 ⟨#[]⟩ 0 [.node 1 ⟨#[120]⟩ 0 [], .node 1 ⟨#[100]⟩ 0 []], .node 4 ⟨#[]⟩ 0 [.node 1 ⟨#[97, 100, 100]⟩ 0 [], .node 4 ⟨#[]⟩ 0 [.node 1 ⟨#[120]⟩ 0 [], .node 1 ⟨#[100]⟩ 0 []], .node 4 ⟨#[]⟩ 0 [.node 1 ⟨#[99]⟩ 0 [], .node 2 ⟨#[]⟩ 8 [], .node 2 ⟨#[]⟩ 3 []]]]]]]
theorem toy_run : run toyS.data.toList 0 [[]] 0 = .ok toyL := by kernel_rfl
theorem toy_ext : CallOK Tryz.prog (extP toyS toyL) := extP_ok toy_run (by unfold toyL; exact List.cons_ne_nil _ _) (by decide)
theorem Tryz.mixed : Tryz.prog.follows .mixedOrders = true := by kernel_rfl
end Go.Proofs.YtigbldheclnmeaaGreatDoor
