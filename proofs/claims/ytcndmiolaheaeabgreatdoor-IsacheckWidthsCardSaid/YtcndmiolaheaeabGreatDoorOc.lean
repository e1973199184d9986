/- A description that came in, opened as far as widths go. -/
import Derived.Test.YtcndmiolaheaeabGreatDoorOb
namespace Go.Proofs.YtcndmiolaheaeabGreatDoor
open Go.ChangeShapes Go.WideShapes Go.RowKit Go.Deep
set_option linter.unusedSimpArgs false
set_option linter.unusedVariables false
set_option maxRecDepth 100000

theorem cells_d2 : Tryz.prog.cellsOf 24 = 1 := by kernel_rfl
theorem cells_d3 : Tryz.prog.cellsOf 25 = 1 := by kernel_rfl
theorem cells_d4 : Tryz.prog.cellsOf 23 = 1 := by kernel_rfl
theorem cells_d5 : Tryz.prog.cellsOf 26 = 1 := by kernel_rfl
theorem cells_d6 : Tryz.prog.cellsOf 27 = 1 := by kernel_rfl
theorem cells_d7 : Tryz.prog.cellsOf 28 = 1 := by kernel_rfl
theorem cells_d8 : Tryz.prog.cellsOf 29 = 1 := by kernel_rfl
theorem cells_d9 : Tryz.prog.cellsOf 30 = 1 := by kernel_rfl
theorem cells_d10 : Tryz.prog.cellsOf 31 = 1 := by kernel_rfl
theorem cells_d11 : Tryz.prog.cellsOf 32 = 1 := by kernel_rfl
theorem cells_d12 : Tryz.prog.cellsOf 25 = 1 := by kernel_rfl
theorem cells_desc : Tryz.prog.cellsOf 34 = 13 := by kernel_rfl
theorem open_desc {H : Type} {enc : TypeId × Value → H} {W : World} {fuel : Nat} {cs : List Value} {x : DataW H × List MemPlace} (h : DataW.trod enc Tryz.prog W 0 (fun _ => true) true fuel 34 cs = some x) :
    ∃ (s0 : ByteArray) (z1 : Int) (Fa : Option Addr) (files : List (Int × Int × Int)) (fc : Nat) (B3 : Option Addr) (l3 c3 : Nat) (Ga : Option Addr) (ng gc : Nat) (Ca : Option Addr) (classes : List (Int × Int)) (cc : Nat) (Ma : Option Addr) (fs : List (List Int)) (mc : Nat)
      (B7 B8 B9 B10 B11 B12 : Option Addr) (l7 c7 l8 c8 l9 c9 l10 c10 l11 c11 l12 c12 : Nat), cs = [.string s0, .int .i64 z1, .slice Fa files.length fc, .slice B3 l3 c3, .slice Ga ng gc, .slice Ca classes.length cc, .slice Ma fs.length mc, .slice B7 l7 c7, .slice B8 l8 c8, .slice B9 l9 c9, .slice B10 l10 c10, .slice B11 l11 c11, .slice B12 l12 c12] ∧ RowOf FileAt 4 W Fa files ∧ RowOf ClassAt 7 W Ca classes ∧ RowOf FormAt 5 W Ma fs := by
  obtain ⟨n', _, hl, hf⟩ := open_fields Tryz.underlying34 h
  rw [cells_desc] at hl
  match cs, hl with
  | [c0, c1, c2, c3, c4, c5, c6, c7, c8, c9, c10, c11, c12], _ =>
    obtain ⟨s0, e0, _⟩ := open_fstr Tryz.underlying9 (hf 0 _ 0 1 _ rfl rfl cells_str rfl)
    obtain ⟨n1, e1, _⟩ := open_fint Tryz.underlying3 (hf 1 _ 1 1 _ rfl rfl cells_int rfl)
    obtain ⟨y2, z2⟩ := hf 2 _ 2 1 _ rfl rfl cells_d2 rfl
    obtain ⟨A2, l2, k2, e2, _, _, r2⟩ := Opens.row Tryz.underlying24 cells_file (by decide) (opens_file n') (Nat.le_refl _) z2
    obtain ⟨A3, l3, k3, e3, _⟩ := open_fslice Tryz.underlying25 (hf 3 _ 3 1 _ rfl rfl cells_d3 rfl)
    obtain ⟨A4, l4, k4, e4, _⟩ := open_fslice Tryz.underlying23 (hf 4 _ 4 1 _ rfl rfl cells_d4 rfl)
    obtain ⟨A7, l7, k7, e7, _⟩ := open_fslice Tryz.underlying28 (hf 7 _ 7 1 _ rfl rfl cells_d7 rfl)
    obtain ⟨A8, l8, k8, e8, _⟩ := open_fslice Tryz.underlying29 (hf 8 _ 8 1 _ rfl rfl cells_d8 rfl)
    obtain ⟨A9, l9, k9, e9, _⟩ := open_fslice Tryz.underlying30 (hf 9 _ 9 1 _ rfl rfl cells_d9 rfl)
    obtain ⟨A10, l10, k10, e10, _⟩ := open_fslice Tryz.underlying31 (hf 10 _ 10 1 _ rfl rfl cells_d10 rfl)
    obtain ⟨A11, l11, k11, e11, _⟩ := open_fslice Tryz.underlying32 (hf 11 _ 11 1 _ rfl rfl cells_d11 rfl)
    obtain ⟨A12, l12, k12, e12, _⟩ := open_fslice Tryz.underlying25 (hf 12 _ 12 1 _ rfl rfl cells_d12 rfl)
    obtain ⟨y5, z5⟩ := hf 5 _ 5 1 _ rfl rfl cells_d5 rfl
    obtain ⟨A5, l5, k5, e5, _, _, r5⟩ := Opens.row Tryz.underlying26 cells_class (by decide) (opens_class n') (Nat.le_refl _) z5
    obtain ⟨y6, z6⟩ := hf 6 _ 6 1 _ rfl rfl cells_d6 rfl
    obtain ⟨A6, l6, k6, e6, _, _, r6⟩ := Opens.row Tryz.underlying27 cells_form (by decide) (opens_form n') (Nat.le_refl _) z6
    simp only [List.drop_zero, List.drop_succ_cons, List.take_succ_cons, List.take_zero, List.cons.injEq, and_true] at e0 e1 e2 e3 e4 e5 e6 e7 e8 e9 e10 e11 e12
    subst e0 e1 e2 e3 e4 e5 e6 e7 e8 e9 e10 e11 e12
    exact ⟨s0, n1, A2, l2, k2, A3, l3, k3, A4, l4, k4, A5, l5, k5, A6, l6, k6, A7, A8, A9, A10, A11, A12, l7, k7, l8, k8, l9, k9, l10, k10, l11, k11, l12, k12, rfl, r2, r5, r6⟩
end Go.Proofs.YtcndmiolaheaeabGreatDoor
