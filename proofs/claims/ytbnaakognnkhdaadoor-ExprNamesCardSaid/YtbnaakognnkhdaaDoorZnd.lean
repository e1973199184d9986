/- Add answers what the document asks. -/
import Derived.Test.YtbnaakognnkhdaaDoorZmd
namespace Go.Proofs.YtbnaakognnkhdaaDoor
open Go.RowKit
set_option linter.unusedSimpArgs false
set_option linter.unusedVariables false

theorem results_cell2 {P : Program} {fn : Func} {t s : Tmp} {ty : TypeId} (h : fn.results = #[.cell t ty, .tmp s]) (tmps : Array Value) {w : World} {p : Addr} {v u : Value} (hp : tmps.getD t undef = .pointer (some p)) (hs : tmps.getD s undef = u) (hl : (loadVar ty p).run P w = .ok v w) : (results fn tmps).run P w = .ok (.tuple #[v, u]) w := by
  rw [Array.getD_eq_getD_getElem?] at hp hs
  simp [results, h, hp, hs, asAddr, hl]
end Go.Proofs.YtbnaakognnkhdaaDoor
