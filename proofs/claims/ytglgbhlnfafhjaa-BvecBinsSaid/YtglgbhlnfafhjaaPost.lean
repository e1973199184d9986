/- A law's last step: it answered true and left old memory alone; so what it was given reads as before. -/
import Derived.Test.YtglgbhlnfafhjaaRows
import Derived.Test.YtglgbhlnfafhjaaNum
import Derived.Lib.SmallJoins
import Derived.ProofKit
namespace Go.Proofs.Ytglgbhlnfafhjaa
open Go.ChangeShapes Go.WideShapes Go.ChangeAt Go.RowKit Go.Joins

theorem Try.own : ownKnob Try.prog.godebug = none := by kernel_rfl
theorem Try.laid : laidOutB Try.prog = true := by kernel_rfl
theorem Try.cellsBits : Try.prog.cellsOf 24 = 3 := by kernel_rfl

/-- The end of a law: results that read as the specification has them, arguments that read so in every world that keeps the old one. -/
theorem law_post {H : Type} {enc : TypeId × Value → H} {P : Program} {f : Func} {s : ChangeSpec} {W W' : World} {args : Array Value} {v : Value} {ds gs : List (DataW H)} {before : List MemPlace}
    (hW : DataW.Whole enc P f.params.toList s.vars false W args.toList ds gs before) (hb : Fr W W')
    (hres : ∀ (b : Nat) (sp : Nat → Bool) (hd : Bool), DataW.TrodAll enc P W' b sp hd f.resultTypes.toList (v.resultList f.resultTypes.size) (s.fn H (ds ++ gs)).results [])
    (hargs : ∀ sp : Nat → Bool, (∀ p ∈ before, sp p.block = true) → DataW.TrodAll enc P W' 0 sp true f.params.toList args.toList (s.fn H (ds ++ gs)).args before)
    (hvars : ∀ sp : Nat → Bool, DataW.TrodVars enc P W' sp s.vars (s.fn H (ds ++ gs)).vars []) :
    s.post enc P f false true false false W args v W' := by
  have old : ∀ p ∈ before, p.block < W.heap.size := fun p hp => hW.lt p hp
  have in0 : ∀ p ∈ before, (fun b => decide (b < W.heap.size)) p.block = true := fun p hp => by have := old p hp; simpa using this
  exact ⟨ds, gs, before, [], before, [], hW, hres _ _ _, hargs _ in0, hvars _, Below.frame hb _, fun h => absurd h (by decide)⟩

/-- Bits that came in: their width, their value; they read so in every world. -/
theorem open_bits {H : Type} {enc : TypeId × Value → H} {W : World} {b0 : Nat} {v : Value} {d : DataW H} {p : List MemPlace}
    (hv : Value.okWide Try.prog W .any b0 24 v) (h : DataW.Trod enc Try.prog W 0 (fun _ => true) true 24 v d p) :
    ∃ B x : Int, v = bv B x ∧ p = [] ∧ 0 ≤ x ∧ x < 340282366920938463463374607431768211456 ∧ -9223372036854775808 ≤ B ∧ B ≤ 9223372036854775807 ∧
      ∀ (W' : World) (sp : Nat → Bool), DataW.Trod enc Try.prog W' 0 sp true 24 v d [] := by
  have h' := h
  obtain ⟨c0, c1, c2, y0, y1, y2, m, rfl, rfl, rfl, hy0, hy1, hy2⟩ := open_agg3 Try.underlying24 (by kernel_rfl) Try.cellsBits hv h
  obtain ⟨x, e0, rfl, wx⟩ := DataW.trod_int Try.underlying3 hy0
  obtain ⟨y, e1, rfl, wy⟩ := DataW.trod_int Try.underlying22 hy1
  obtain ⟨z, e2, rfl, wz⟩ := DataW.trod_int Try.underlying22 hy2
  simp at e0 e1 e2
  subst e0 e1 e2
  obtain ⟨q, q0, q1, rfl, rfl⟩ := of_words (word_of_wf wy) (word_of_wf wz)
  have wx' := wx
  simp [Lit.wf, IntKind.min, IntKind.max, IntKind.signed, IntKind.bits] at wx'
  refine ⟨x, q, rfl, rfl, q0, q1, by omega, by omega, fun W' sp => ?_⟩
  exact WideElems.Trod_stays Try.laid (by kernel_rfl) (of_decide_eq_true (by kernel_rfl)) h' (fun x hx => by simp at hx) (fun x hx => by simp at hx)
end Go.Proofs.Ytglgbhlnfafhjaa
