/- The class of an operand, where both are there. -/
import Derived.Test.YtcndmiolaheaeabGreatDoorVd
import Derived.Deep.RegionHeld3
namespace Go.Proofs.YtcndmiolaheaeabGreatDoor
open Go.RowKit
set_option linter.unusedSimpArgs false
set_option linter.unusedVariables false

set_option maxHeartbeats 3200000 in
set_option maxRecDepth 100000 in
theorem classOf_at {E : Env} {w : World} {Fa Ca Aa : Option Addr} {sb cc ac : Nat} (s5 : w.cell? ⟨sb, 5, none⟩ = some (.slice Ca E.classes.length cc)) (s13 : w.cell? ⟨sb, 13, none⟩ = some (.slice Aa E.args.length ac))
    (hE : EnvAt E w Fa Ca Aa) {j k : Nat} (hj : j < E.args.length) (hk : k < E.classes.length) (hx : E.args[j] = (k : Int)) :
    Calls Tryz.prog 94 #[.pointer (some ⟨sb, 0, none⟩), .int .i64 (j : Int)] w fun e w' => (∃ n u v x y l q, e = .returned (.tuple #[.agg #[.string n, .int .i64 E.classes[k].1, .int .i64 E.classes[k].2, .int .i64 u, .int .i64 v, .int .i64 x, .slice y l q], .bool true])) ∧ Fr w w' := by
  have hsl := lt_of_cell s5
  obtain ⟨b, o, rfl, n, h0, h1⟩ := hE.args.at hj
  rw [Nat.mul_comm 2 j] at h0 h1
  obtain ⟨b', o', rfl, n', u, v, x, y, l, q, g0, g1, g2, g3, g4, g5, g6⟩ := hE.classes.at hk
  rw [Nat.mul_comm 7 k] at g0 g1 g2 g3 g4 g5 g6
  have hbl := lt_of_cell h0
  have hbl' := lt_of_cell g0
  rw [hx] at h1
  generalize E.classes[k] = c at *
  obtain ⟨c1, c2⟩ := c
  have hji : (j : Int) < (E.args.length : Int) := by omega
  have hki : (k : Int) < (E.classes.length : Int) := by omega
  have HJ := Lib.hid (fun A c w => (show plB (j : Int) E.args.length = true by simp [plB_nat, hj]) ▸ argPlace_any (j : Int) A E.args.length c w)
  have HX := Lib.hid (fun A c w => (show plB (k : Int) E.classes.length = true by simp [plB_nat, hk]) ▸ classPlace_any (k : Int) A E.classes.length c w)
  clear hx hE
  go_enter Tryz.func94, Tryz.ntmps94
  go_wp2
  go_quiet ((first | (go_at_call 100; refine Calls.quiet_of_same (HJ.out _ _ _)) | (go_at_call 83; refine Calls.quiet_of_same (HX.out _ _ _))))
  go_wp2
  go_region_held3 (fun w' => World.cell? w' ⟨sb, 5, none⟩ = some (.slice (some ⟨b', o', none⟩) E.classes.length cc) ∧ World.cell? w' ⟨sb, 13, none⟩ = some (.slice (some ⟨b, o, none⟩) E.args.length ac) ∧ World.cell? w' ⟨b, o + j * 2 + 1, none⟩ = some (.int .i64 (k : Int)) ∧ World.cell? w' ⟨b', o' + k * 7, none⟩ = some (.string n') ∧ World.cell? w' ⟨b', o' + k * 7 + 1, none⟩ = some (.int .i64 c1) ∧ World.cell? w' ⟨b', o' + k * 7 + 2, none⟩ = some (.int .i64 c2) ∧ World.cell? w' ⟨b', o' + k * 7 + 3, none⟩ = some (.int .i64 u) ∧ World.cell? w' ⟨b', o' + k * 7 + 4, none⟩ = some (.int .i64 v) ∧ World.cell? w' ⟨b', o' + k * 7 + 5, none⟩ = some (.int .i64 x) ∧ World.cell? w' ⟨b', o' + k * 7 + 6, none⟩ = some (.slice y l q)) (simp [go_sem, *]) (fail)
  go_wp2
  exact bodyPost_ret (v := .tuple #[.agg #[.string n', .int .i64 c1, .int .i64 c2, .int .i64 u, .int .i64 v, .int .i64 x, .slice y l q], .bool true]) (by simp [results, noClass, Tryz.results94, go_sem, *]) rfl ⟨⟨n', u, v, x, y, l, q, rfl⟩, by repeat (first | with_reducible exact Fr.refl _ | with_reducible apply Fr.drewN | with_reducible apply Fr.drew | with_reducible apply Fr.alloc | (with_reducible refine Fr.set ?_ (by simp) _))⟩
end Go.Proofs.YtcndmiolaheaeabGreatDoor
