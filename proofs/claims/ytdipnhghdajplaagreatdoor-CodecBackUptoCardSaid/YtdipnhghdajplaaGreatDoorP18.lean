/- The class of an operand, of the program. -/
import Derived.Test.YtdipnhghdajplaaGreatDoorP05
import Derived.Deep.QuietTactic
import Derived.BigQuiet
import Derived.StillTailTactics
namespace Go.Proofs.YtdipnhghdajplaaGreatDoor
open Go.RowKit
set_option linter.unusedSimpArgs false
set_option linter.unusedVariables false
theorem clsO_noArg {E : Env} {x : Int} (h : plB x E.args.length = false) : clsO E x = none := by
 unfold clsO
 by_cases h0 : 0 ≤ x
 · rw [if_pos h0, List.getElem?_eq_none (by simp [plB, h0] at h; omega)]
 · rw [if_neg h0]
theorem clsO_noClass {E : Env} {j : Nat} (hj : j < E.args.length) (h : plB E.args[j] E.classes.length = false) : clsO E (j : Int) = none := by
 unfold clsO
 rw [if_pos (by omega)]
 simp only [Int.toNat_natCast, List.getElem?_eq_getElem hj]
 by_cases h0 : 0 ≤ E.args[j]
 · rw [if_pos h0, List.getElem?_eq_none (by simp [plB, h0] at h; omega)]
 · rw [if_neg h0]
theorem clsO_at {E : Env} {j k : Nat} (hj : j < E.args.length) (hk : k < E.classes.length) (e : E.args[j] = (k : Int)) : clsO E (j : Int) = some E.classes[k] := by
 unfold clsO
 rw [if_pos (by omega)]
 simp only [Int.toNat_natCast, List.getElem?_eq_getElem hj, e]
 rw [if_pos (by omega)]
 simp [hk]
def noClass : Value := .agg #[.string ⟨#[]⟩, .int .i64 0, .int .i64 0, .int .i64 0, .int .i64 0, .int .i64 0, .slice none 0 0]
set_option maxHeartbeats 3200000 in
theorem classOf_noArg {E : Env} {w : World} {Ca Aa : Option Addr} {sb cc ac : Nat} (s5 : w.cell? ⟨sb, 5, none⟩ = some (.slice Ca E.classes.length cc)) (s13 : w.cell? ⟨sb, 13, none⟩ = some (.slice Aa E.args.length ac))
   (x : Int) (hx : plB x E.args.length = false) :
   Calls Tryz.prog 142 #[.pointer (some ⟨sb, 0, none⟩), .int .i64 x] w fun e w' => e = .returned (.tuple #[noClass, .bool false]) ∧ Fr w w' := by
 have hsl := lt_of_cell s5
 have HX := Lib.hid (fun A c w => hx ▸ argPlace_any x A E.args.length c w)
 clear hx
 go_enter Tryz.func142, Tryz.ntmps142
 go_wp2
 go_quiet ((go_at_call 106; refine Calls.quiet_of_same (HX.out _ _ _)))
 go_wp2
 exact bodyPost_ret (v := .tuple #[noClass, .bool false]) (by simp [results, noClass, Tryz.results142, go_sem, *]) rfl ⟨rfl, by repeat (first | with_reducible exact Fr.refl _ | with_reducible apply Fr.drewN | with_reducible apply Fr.drew | with_reducible apply Fr.alloc | (with_reducible refine Fr.set ?_ (by simp) _))⟩
set_option maxHeartbeats 3200000 in
theorem classOf_noClass {E : Env} {w : World} {Fa Ca Aa : Option Addr} {sb cc ac : Nat} (s5 : w.cell? ⟨sb, 5, none⟩ = some (.slice Ca E.classes.length cc)) (s13 : w.cell? ⟨sb, 13, none⟩ = some (.slice Aa E.args.length ac))
   (hE : EnvAt E w Fa Ca Aa) {j : Nat} (hj : j < E.args.length) (hx : plB E.args[j] E.classes.length = false) :
   Calls Tryz.prog 142 #[.pointer (some ⟨sb, 0, none⟩), .int .i64 (j : Int)] w fun e w' => e = .returned (.tuple #[noClass, .bool false]) ∧ Fr w w' := by
 have hsl := lt_of_cell s5
 obtain ⟨b, o, rfl, n, h0, h1⟩ := hE.args.at hj
 rw [Nat.mul_comm 2 j] at h0 h1
 have hbl := lt_of_cell h0
 generalize E.args[j] = x at *
 have hji : (j : Int) < (E.args.length : Int) := by omega
 have HJ := Lib.hid (fun A c w => (show plB (j : Int) E.args.length = true by simp [plB_nat, hj]) ▸ argPlace_any (j : Int) A E.args.length c w)
 have HX := Lib.hid (fun A c w => hx ▸ classPlace_any x A E.classes.length c w)
 clear hx hE
 go_enter Tryz.func142, Tryz.ntmps142
 go_wp2
 go_quiet ((first | (go_at_call 106; refine Calls.quiet_of_same (HJ.out _ _ _)) | (go_at_call 76; refine Calls.quiet_of_same (HX.out _ _ _))))
 go_wp2
 exact bodyPost_ret (v := .tuple #[noClass, .bool false]) (by simp [results, noClass, Tryz.results142, go_sem, *]) rfl ⟨rfl, by repeat (first | with_reducible exact Fr.refl _ | with_reducible apply Fr.drewN | with_reducible apply Fr.drew | with_reducible apply Fr.alloc | (with_reducible refine Fr.set ?_ (by simp) _))⟩
end Go.Proofs.YtdipnhghdajplaaGreatDoor
