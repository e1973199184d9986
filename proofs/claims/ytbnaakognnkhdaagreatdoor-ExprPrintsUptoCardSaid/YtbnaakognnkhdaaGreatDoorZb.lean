/- What the rows' condition gives the walks; what lies at the start meets it. -/
import Derived.Test.YtbnaakognnkhdaaGreatDoorLawp
import Derived.Test.YtbnaakognnkhdaaGreatDoorIter
import Derived.Test.YtbnaakognnkhdaaGreatDoorShelf
import Derived.LaidMore
import Derived.OpenShut
import Derived.Stop.Joined
import Derived.Lib.LaidTab
import Derived.Stop.LaidErr
import Derived.Sort.Grow
namespace Go.Proofs.YtbnaakognnkhdaaGreatDoor
open Go.ChangeShapes Go.WideShapes Go.ChangeAt Go.RowKit Go.Joins
set_option linter.unusedSimpArgs false
set_option linter.unusedVariables false

theorem Tryz.laidOut : laidOutB Tryz.prog = true := by kernel_rfl
/-- The listed variables hold what they were given. -/
def Laid (w : World) : Prop := (∃ t v, w.cell? ⟨3, 0, none⟩ = some (.iface t v)) ∧ (∃ t v, w.cell? ⟨4, 0, none⟩ = some (.iface t v)) ∧ Lib.TabIs Tryz.prog w "internal/strconv.uint64pow10" .u64 Lib.pow10Tab
theorem var_keep {P : Program} {w w' : World} {n : String} {g : Nat} (hg : P.globalNamed n = some g) (h : w'.heap[g]? = w.heap[g]?) : w'.var? P n = w.var? P n := by
  unfold World.var?; rw [hg]; simp only [Option.bind_some]; rw [h]
theorem gTab : Tryz.prog.globalNamed "internal/strconv.uint64pow10" = some 0 := by kernel_rfl
theorem gBruijn : Tryz.prog.globalNamed "math/bits.deBruijn64tab" = some 2 := by kernel_rfl
theorem gSyn : Tryz.prog.globalNamed "strconv.ErrSyntax" = some 3 := by kernel_rfl
theorem gRan : Tryz.prog.globalNamed "strconv.ErrRange" = some 4 := by kernel_rfl
theorem errStar : "*" ++ "errors.errorString" = "*errors.errorString" := by decide
theorem errRow (u : TypeId) (h : Tryz.prog.typeName? 3 u = some "*errors.errorString") : u = 147 :=
  typeName_ptr_named (nm := "errors.errorString") (by rw [errStar]; kernel_rfl) (by kernel_rfl) (by decide) u (by rw [errStar]; exact h)

/-- The door's own heap meets the condition: three closed facts. -/
theorem door_met (os : Os) (args : Array Value) : laidMetH Tryz.prog Rows.exprPrintsRow.laid ((World.doorLaid Tryz.prog 400 os).forCall (fun _ _ => 0) ⟨#[], args, []⟩).memory :=
  laidMetH_of_parts3 (fuel := 8) (laidMet_of_run' 8 (by kernel_rfl) (by kernel_rfl)) (by kernel_rfl) (by kernel_rfl)

theorem var_lt {P : Program} {W : World} {n : String} {g : Nat} {cs : Array Value} (hg : P.globalNamed n = some g) (h : W.var? P n = some cs) : g < W.heap.size := by
  unfold World.var? at h
  simp only [hg, Option.bind_some] at h
  rcases Nat.lt_or_ge g W.heap.size with h' | h'
  · exact h'
  · simp [Array.getElem?_eq_none h'] at h
theorem iface_cell {W : World} {n : String} {g : Nat} {t : TypeId} {v : Value} (hg : Tryz.prog.globalNamed n = some g) (h : W.var? Tryz.prog n = some #[.iface t v]) : W.cell? ⟨g, 0, none⟩ = some (.iface t v) := by
  simpa using World.var?_cell hg h 0

/-- What the condition gives the walks. -/
theorem of_laid {W : World} (h : laidMetH Tryz.prog Rows.exprPrintsRow.laid W) : Laid W := by
  rw [MakeChecks.laidMetH_plain _ _ _ (by kernel_rfl)] at h
  have h1 := laidMet.tail h
  have h2 := laidMet.tail h1
  have h3 := laidMet.tail h2
  have h4 := laidMet.tail h3
  have eT : Rows.laid_internal_strconv_uint64pow10 = (Lib.tabData .u64 Lib.pow10Tab : DataW Unit) := by kernel_rfl
  rw [eT] at h2
  have hT := Lib.tabIs_of_head (t := 118) (e := 99) (n := 20) gTab (by kernel_rfl) (by kernel_rfl) (by kernel_rfl) (by kernel_rfl) (by kernel_rfl) h2
  obtain ⟨a, s, hR, _⟩ := laid_sentinel (tp := 147) (te := 149) (ts := 9) h3 gRan (by kernel_rfl) Tryz.underlying71 errRow Tryz.underlying147 Tryz.underlying149 rfl rfl (by kernel_rfl) (by kernel_rfl) (by kernel_rfl)
  obtain ⟨a', s', hS, _⟩ := laid_sentinel (tp := 147) (te := 149) (ts := 9) h4 gSyn (by kernel_rfl) Tryz.underlying71 errRow Tryz.underlying147 Tryz.underlying149 rfl rfl (by kernel_rfl) (by kernel_rfl) (by kernel_rfl)
  exact ⟨⟨_, _, iface_cell gSyn hS⟩, ⟨_, _, iface_cell gRan hR⟩, hT⟩
theorem Laid.fr {w w' : World} (h : Laid w) (k : Fr w w') : Laid w' := by
  obtain ⟨⟨t, v, h1⟩, ⟨t', v', h2⟩, h3⟩ := h
  refine ⟨⟨t, v, k.get h1⟩, ⟨t', v', k.get h2⟩, ?_⟩
  exact (var_keep gTab (k.block _ (var_lt gTab h3))).trans h3
theorem fr_grow (w : World) (k : Nat) (os : Array Obj) : Fr w (Sort.grow (w.drewN k) os) := by
  refine ⟨rfl, rfl, rfl, ?_, fun i hi => ?_⟩
  · show w.heap.size ≤ (w.heap ++ os).size
    simp
  · show (w.heap ++ os)[i]? = w.heap[i]?
    rw [Array.getElem?_append_left hi]
theorem itoa_any (n : Int) (hn : -9223372036854775808 ≤ n ∧ n ≤ 9223372036854775807) (w : World) (hl : Laid w) :
    Calls Tryz.prog 50 #[.int .i64 n] w fun e w' => e = .returned (.string ⟨(Lib.itoa n).toArray⟩) ∧ Fr w w' :=
  (Tryz.strconv_Itoa n hn.1 hn.2 w hl.2.2).mono fun e w' ⟨he, k, os, hw⟩ => ⟨he, by rw [hw]; exact fr_grow w k os⟩
end Go.Proofs.YtbnaakognnkhdaaGreatDoor
