/- The builder's text. -/
import Derived.Test.YtonlmennpbklgaaDoorTd
import Derived.RegionTactic
namespace Go.Proofs.YtonlmennpbklgaaDoor
open Go.RowKit
set_option linter.unusedSimpArgs false
set_option linter.unusedVariables false

theorem cellsByte : Tryd.prog.cellsOf 5 = 1 := by kernel_rfl
def StrP (p : Nat) (bs : List UInt8) (w : World) (e : Ending) (w' : World) : Prop := e = .returned (.string ⟨bs.toArray⟩) ∧ ∀ W, Fr W w → W.heap.size ≤ p → Fr W w'
set_option maxHeartbeats 3200000 in
set_option maxRecDepth 100000 in
theorem string_some (p k : Nat) (bs : List UInt8) (w : World) (h : Pn w p bs k) (h0 : bs ≠ []) (hl : bs.length ≤ 300000) : Calls Tryd.prog 23 #[.pointer (some ⟨p, 0, none⟩)] w fun e w' => StrP p bs w e w' := by
  obtain ⟨a, v, hb, _, hown⟩ := h.holds
  have hl0 : bs.length ≠ 0 := by simpa using h0
  obtain ⟨g, cap, cur, rfl, hbg, hg, hnc, hcm, hcs, htake⟩ : ∃ g cap cur, v = .slice (some ⟨g, 0, none⟩) bs.length cap ∧ p + 1 ≤ g ∧ w.heap[g]? = some (.cells cur 5 (0, 0)) ∧ bs.length ≤ cap ∧ cap ≤ maxLen ∧ cur.size = cap * 1 ∧ cur.toList.take (bs.length * 1) = Lib.byteCells bs := by
    rcases hown.2 with ⟨_, hz⟩ | ⟨g, cap, cur, hv, r⟩
    · exact absurd hz hl0
    · exact ⟨g, cap, cur, hv, r⟩
  have c1 : w.drew.cell? ⟨p, 1, none⟩ = some (.slice (some ⟨g, 0, none⟩) bs.length cap) := hb.cell 1
  have hSD : (Builtin.unsafeSliceData_ #[54] 76 #[.slice (some ⟨g, 0, none⟩) bs.length cap]).run Tryd.prog w.drew = .ok (.pointer (some ⟨g, 0, none⟩)) w.drew :=
    Lib.run_unsafeSliceData_row _ _ _ _ _ _ (by omega)
  have hUS : (Builtin.unsafeString_ #[76, 3] 9 #[.pointer (some ⟨g, 0, none⟩), .int .i64 bs.length]).run Tryd.prog w.drew = .ok (.string ⟨bs.toArray⟩) (w.drew.freeze ⟨g, 0, none⟩ bs.length) := by
    refine Lib.run_unsafeString_row w.drew 76 3 9 5 Tryd.underlying76 cellsByte g cur.size (by have hg' : w.drew.heap[g]? = some (.cells cur 5 (0, 0)) := hg; simp [World.shape?, hg']) bs h0 (by omega) (by unfold maxLen at hcm; omega) ?_
    intro j x hx
    exact hown.cells (g := g) rfl j (.int .u8 x.toNat) (by simp [Lib.byteCells, hx])
  clear hown hb h hg htake hcs hcm h0
  go_enter Tryd.func23, Tryd.ntmps23
  go_wp2
  go_region
  all_goals
    go_wp2
    go_ret
    exact ⟨rfl, fun W h1 h2 => Lib.below_freeze (Below.drew h1) (p := ⟨g, 0, none⟩) (by show W.heap.size ≤ g; omega) _⟩
set_option maxHeartbeats 3200000 in
set_option maxRecDepth 100000 in
theorem string_nil (p : Nat) (a k : Value) (w : World) (hb : Bk w p 58 #[a, .slice none 0 0, k]) : Calls Tryd.prog 23 #[.pointer (some ⟨p, 0, none⟩)] w fun e w' => StrP p [] w e w' := by
  have hUS : ∀ (W : World) (q : Option Addr), (Builtin.unsafeString_ #[76, 3] 9 #[.pointer q, .int .i64 0]).run Tryd.prog W = .ok (.string .empty) W := fun W q => Lib.run_unsafeString_none W _ _ _ q
  have c1 : w.drew.cell? ⟨p, 1, none⟩ = some (.slice none 0 0) := hb.cell 1
  have hSD : (Builtin.unsafeSliceData_ #[54] 76 #[.slice none 0 0]).run Tryd.prog w.drew = .ok (.pointer none) w.drew := rfl
  clear hb
  go_enter Tryd.func23, Tryd.ntmps23
  go_wp2
  go_region
  all_goals
    go_wp2
    go_ret
    exact ⟨rfl, fun W h1 _ => Below.drew h1⟩
end Go.Proofs.YtonlmennpbklgaaDoor
