/- Closed calls that answer plain values, reckoned; the set-up of every law of the layer answers true, in whatever world. -/
import Derived.Test.YtelfokoibmpdlaaEr
import Derived.Test.YtelfokoibmpdlaaFr
import Derived.Test.YtelfokoibmpdlaaProg
namespace Go.Proofs.Ytelfokoibmpdlaa
open Go.RowKit
set_option linter.unusedSimpArgs false
set_option linter.unusedVariables false

/-- Nothing is known of calls besides. -/
def ext0 : CallF := fun _ _ _ _ => none
theorem ext0_ok {P : Program} : CallOK P ext0 := by
  intro L f vs H v H' p w args he
  cases he
/-- The reckoning's result is u. -/
def isRes (u : Value) (r : Option (Value × Hp)) : Bool := match r with
  | some (v, _) => veq 9 v u
  | none => false
theorem isRes_ok {u : Value} {r : Option (Value × Hp)} (h : isRes u r = true) : ∃ H, r = some (u, H) := by
  unfold isRes at h
  split at h
  · rename_i v H
    exact ⟨H, by rw [veq_ok 9 _ _ h]⟩
  · cases h
/-- A closed call that answers a value without addresses: so it does in whatever world. -/
theorem closed_calls {P : Program} {ext : CallF} (hm : P.follows .mixedOrders = true) (hext : CallOK P ext) {n : Nat} {f : FuncId} {vs : List Value} {u : Value} (hc : isRes u (callF P (runF P ext n) [] f vs ⟨0, []⟩) = true) (hu : sc u = true) (hr : vs.all sc = true)
    (w : World) : Calls P f vs.toArray w fun e w' => e = .returned u ∧ Fr w w' := by
  obtain ⟨H, he⟩ := isRes_ok hc
  refine (calls_of_runF hm hext n (p := fun _ => ⟨0, 0, 0, 0⟩) (args := vs.toArray) he (Rel.empty _ w) (VL.of_sc hr)).mono ?_
  rintro e w' ⟨v', p', rfl, hs, hv⟩
  have hg : ∀ i b, (⟨0, []⟩ : Hp).get i = some b → False := fun i b h => by unfold Hp.get Hp.ent at h; simp at h
  exact ⟨by rw [hv.sc_eq hu], hs.old (Nat.le_refl _) (fun i hi => by obtain ⟨b, hb, _⟩ := hi; exact (hg i b hb).elim)⟩
theorem Try.mixed : Try.prog.follows .mixedOrders = true := by kernel_rfl
set_option maxRecDepth 100000 in
theorem alive_eval : isRes (.bool true) (callF Try.prog (runF Try.prog ext0 3000) [] 7 [] ⟨0, []⟩) = true := by kernel_rfl
theorem alive7 (w : World) : Calls Try.prog 7 #[] w fun e w' => e = .returned (.bool true) ∧ Fr w w' :=
  closed_calls Try.mixed ext0_ok alive_eval rfl rfl w
end Go.Proofs.Ytelfokoibmpdlaa
