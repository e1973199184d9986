/- sexpAlive answers true. -/
import Derived.Test.YtonlmennpbklgaaDoorSab
namespace Go.Proofs.YtonlmennpbklgaaDoor
open Go.RowKit
set_option linter.unusedSimpArgs false
set_option linter.unusedVariables false

theorem parse_exA (w : World) (hw5 : 5 < w.heap.size) (hla : Laid w) : Calls Tryd.prog 8 #[.string exA] w fun e w' => ∃ b o c b2 o2 c2, e = .returned (.tuple #[.slice (some ⟨b, o, none⟩) 1 c, .int .i64 0, .int .i64 0]) ∧ 1 ≤ c ∧ 3 ≤ c2 ∧ w'.cell? ⟨b, o + 3, none⟩ = some (.slice (some ⟨b2, o2, none⟩) 3 c2) ∧ w'.cell? ⟨b2, o2 + 10, none⟩ = some (.int .i64 (-7)) ∧ Fr w w' := by
  refine (parse_ps exA w (by decide) hw5 hla).mono ?_
  rintro e w' ⟨hf, ⟨a, er, _, hr⟩ | ⟨l, A, c, he, hlc, hrd, hr⟩⟩
  · rw [exA_run] at hr; cases hr
  · rw [exA_run] at hr
    injection hr with hr
    subst hr
    obtain ⟨b, o, rfl, _, ht⟩ := RdL.elem 0 (by simp) hrd
    simp only [List.getElem_cons_zero] at ht
    unfold RdT at ht
    obtain ⟨A2, c2, hc2, _, _, _, h3, hk⟩ := ht
    obtain ⟨b2, o2, rfl, _, ht2⟩ := RdL.elem 2 (by simp) hk
    simp only [List.getElem_cons_succ, List.getElem_cons_zero] at ht2
    unfold RdT at ht2
    obtain ⟨_, _, _, _, _, h2, _, _⟩ := ht2
    exact ⟨b, o, c, b2, o2, c2, he, hlc, hc2, h3, h2, hf⟩
theorem parse_exB (w : World) (hw5 : 5 < w.heap.size) (hla : Laid w) : Calls Tryd.prog 8 #[.string exB] w fun e w' => e = .returned (.tuple #[.slice none 0 0, .int .i64 2, .int .i64 31]) ∧ Fr w w' := by
  refine (parse_ps exB w (by decide) hw5 hla).mono ?_
  rintro e w' ⟨hf, ⟨a, er, he, hr⟩ | ⟨l, A, c, _, _, _, hr⟩⟩
  · rw [exB_run] at hr
    injection hr with h1 h2
    subst h1 h2
    exact ⟨he, hf⟩
  · rw [exB_run] at hr; cases hr
set_option maxHeartbeats 3200000 in
set_option maxRecDepth 100000 in
theorem alive_any (w : World) (hw5 : 5 < w.heap.size) (hla : Laid w) : Calls Tryd.prog 6 #[] w fun e w' => e = .returned (.bool true) ∧ Fr w w' := by
  have HA := Lib.hid (parse_exA w hw5 hla)
  have HB := Lib.hid parse_exB
  have HW := Lib.hid hw5
  have HL := Lib.hid hla
  clear hw5 hla
  go_enter Tryd.func6, Tryd.ntmps6
  go_wp2_with fail
  refine (show Calls Tryd.prog 8 #[.string ⟨#[40, 97, 32, 34, 98, 32, 99, 34, 32, 45, 55, 41, 32, 59, 32, 120]⟩] w _ from HA.out).mono ?_
  rintro e w1 ⟨b, o, c, b2, o2, c2, rfl, hc, hc2, h3, h7, hf⟩
  have HF := Lib.hid hf
  go_wp2_with fail
  refine (show Calls Tryd.prog 8 #[.string ⟨#[40, 97]⟩] w1 _ from HB.out w1 (by have := HW.out; have := hf.size; omega) (HL.out.wr (p := w.heap.size) (Wr.of hf) (by have := HW.out; omega))).mono ?_
  rintro e w2 ⟨rfl, hf2⟩
  have h3' := hf2.get h3
  have h7' := hf2.get h7
  have HF2 := Lib.hid (HF.out.call hf2)
  clear hf hf2 h3 h7
  go_wp2
  go_ret
  exact ⟨ret_bool (by simp), HF2.out⟩
end Go.Proofs.YtonlmennpbklgaaDoor
