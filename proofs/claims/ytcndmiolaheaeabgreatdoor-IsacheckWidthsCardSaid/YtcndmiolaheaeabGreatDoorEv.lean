/- The toy, wherever it is made; and calls on it that answer plain values. -/
import Derived.Test.YtcndmiolaheaeabGreatDoorEu
namespace Go.Proofs.YtcndmiolaheaeabGreatDoor
open Go.RowKit
set_option linter.unusedSimpArgs false
set_option linter.unusedVariables false

theorem isToy_ok {r : Option (Value × Hp)} (h : isToy r = true) : ∃ vs us H, r = some (.agg vs, H) ∧ toyV = .agg us ∧ us.toList.map (rn1 toyG) = vs.toList ∧ us.toList.all (flat toyH.n) = true ∧ partOf toyH H toyG = true := by
  unfold isToy at h
  split at h
  · rename_i vs H us e
    simp only [Bool.and_eq_true] at h
    exact ⟨vs, us, H, rfl, e, all2_ok (veq_ok 9) _ _ h.1.1, h.1.2, h.2⟩
  · cases h
def ownAll (H : Hp) : Bool := H.l.all fun e => match e with | .live b => b.own | _ => true
theorem ownAll_ok {H : Hp} (h : ownAll H = true) {i : Nat} {b : Blk} (hb : H.get i = some b) : b.own = true := by
  have h1 := Hp.ent_of_get hb
  unfold Hp.ent at h1
  split at h1
  · rw [List.getD_eq_getElem?_getD] at h1
    cases h2 : H.l[H.n - 1 - i]? with
    | none => rw [h2] at h1; cases h1
    | some e =>
      rw [h2] at h1
      simp only [Option.getD_some] at h1
      subst h1
      have := List.all_eq_true.1 h _ (List.mem_of_getElem? h2)
      exact this
  · cases h1
theorem toy_own : ownAll toyH = true := by kernel_rfl
/-- v is the toy in w, all of it in blocks from B on. -/
def ToyAt (B : Nat) (w : World) (v : Value) : Prop := ∃ p, Rel p toyH w ∧ VR toyH.al p toyV v ∧ ∀ i b, toyH.get i = some b → B ≤ (p i).blk
theorem toy_calls (w : World) : Calls Tryz.prog 13 #[] w fun e w' => ∃ v, e = .returned v ∧ Fr w w' ∧ ToyAt w.heap.size w' v := by
  obtain ⟨vs, us, H, he, hu, hm, hf, hp⟩ := isToy_ok toy_eval
  refine (calls_of_runF Tryz.mixed toy_ext 3000 (p := fun _ => ⟨0, 0, 0, 0⟩) (args := #[]) he (Rel.empty _ w) VL.nil).mono ?_
  rintro e w' ⟨v', p', rfl, hs, hv⟩
  have hg : ∀ i b, (⟨0, []⟩ : Hp).get i = some b → False := fun i b h => by unfold Hp.get Hp.ent at h; simp at h
  obtain ⟨k1, k2, k3⟩ := partOf_ok hp hs.rel
  refine ⟨v', rfl, hs.old (Nat.le_refl _) (fun i hi => by obtain ⟨b, hb, _⟩ := hi; exact (hg i b hb).elim), fun i => p' (toyG i), k1, ?_, ?_⟩
  · rw [hu]
    cases hv with
    | agg _ ys hl hh =>
      have h1 : VL H.al p' (us.toList.map (rn1 toyG)) ys.toList := hm ▸ VL.of_arr hl hh
      simpa using VL.agg (rnL_ok k2 hf h1)
  · intro i b hb
    obtain ⟨c, hc, ho⟩ := k3 i b hb
    rcases hs.mine _ c hc (by rw [ho]; exact ownAll_ok toy_own hb) with h1 | ⟨j, _, ⟨b', h1, _⟩, _⟩
    · exact h1
    · exact (hg j b' h1).elim
/-- Values that hold no address, or tuples of such. -/
def scT : Value → Bool
  | .tuple xs => xs.toList.all sc
  | v => sc v
theorem VR.scT_eq {A : Nat → Prop} {p : Nat → Pla} {v v' : Value} (h : VR A p v v') (hs : scT v = true) : v' = v := by
  cases h with
  | tup xs ys hl h =>
    have hs : xs.toList.all sc = true := hs
    congr 1
    refine Array.ext hl.symm fun i h1 h2 => ?_
    exact (h i h2 h1).sc_eq (List.all_eq_true.1 hs _ (by simp))
  | _ => first | rfl | (simp [scT, sc] at hs)
/-- The reckoning's result is u. -/
def isRes (u : Value) (r : Option (Value × Hp)) : Bool := match r with
  | some (v, _) => veq 9 v u
  | none => false
theorem isRes_ok {u : Value} {r : Option (Value × Hp)} (h : isRes u r = true) : ∃ H, r = some (u, H) := by
  unfold isRes at h
  split at h
  · rename_i v H
    exact ⟨H, by rw [veq_ok 9 _ _ h]⟩
  · cases h
theorem res_calls {f : FuncId} {r : List Value} {u : Value} (hc : isRes u (callF Tryz.prog (runF Tryz.prog (extP toyS toyL) 3000) [] f (toyV :: r) toyH) = true) (hu : scT u = true) (hr : r.all sc = true)
    {B : Nat} {w : World} {v : Value} (ht : ToyAt B w v) (hB : B ≤ w.heap.size) {args : Array Value} (ha : args = (v :: r).toArray) : Calls Tryz.prog f args w fun e w' => e = .returned u ∧ Below B w w' := by
  subst ha
  obtain ⟨p, h1, h2, h3⟩ := ht
  obtain ⟨H, he⟩ := isRes_ok hc
  refine (calls_of_runF Tryz.mixed toy_ext 3000 (args := (v :: r).toArray) he h1 (VL.cons h2 (VL.of_sc hr))).mono ?_
  rintro e w' ⟨v', p', rfl, hs, hv⟩
  exact ⟨by rw [hv.scT_eq hu], hs.old hB (fun i hi => by obtain ⟨b, hb, _⟩ := hi; exact h3 i b hb)⟩
end Go.Proofs.YtcndmiolaheaeabGreatDoor
