/- A call of the function that catches panics, reckoned: its closure is. The set-up of every law of layer 8 answers true, in whatever world. -/
import Derived.Test.YtigbldheclnmeaaGreatDoorYa
import Derived.Test.YtigbldheclnmeaaGreatDoorYb
namespace Go.Proofs.YtigbldheclnmeaaGreatDoor
open Go.RowKit
set_option linter.unusedSimpArgs false
set_option linter.unusedVariables false

def isDidZ (cs : List Value) : Bool := match cs with
  | [.int .i64 x, .int .i64 y, .int .u64 z] => decide (x = 0) && decide (y = 0) && decide (z = 0)
  | _ => false
theorem isDidZ_eq {cs : List Value} (h : isDidZ cs = true) : cs = didZ.toList := by
  unfold isDidZ at h
  split at h
  · simp at h; obtain ⟨⟨rfl, rfl⟩, rfl⟩ := h; rfl
  · cases h
/-- Beside what ext knows: what a caught closure that returns comes to. -/
noncomputable def extC (ext : CallF) (n : Nat) : CallF := fun L f vs H =>
  match decide (f = 51) with
  | true => match vs with
    | [.func (.func g) xs us] => match Tryz.prog.funcs[g]? with
      | some fn => match decide (fn.name ≠ "runtime.NumGoroutine" ∧ fn.body.isSome = true) with
        | true => match callF Tryz.prog (runF Tryz.prog ext n) L g (xs.toList ++ us.toList) (H.push (.live ⟨didZ.toList, 126, 0, true⟩)) with
          | some (_, H2) => match H2.get H.n with
            | some b => if b.own = true ∧ isDidZ b.cs = true then some (.tuple #[.agg didZ, .bool true], H2) else none
            | none => none
          | none => none
        | false => none
      | none => none
    | _ => none
  | false => ext L f vs H
theorem extC_ok {ext : CallF} (hm : Tryz.prog.follows .mixedOrders = true) (hext : CallOK Tryz.prog ext) (n : Nat) : CallOK Tryz.prog (extC ext n) := by
  intro L f vs H v H' p w args he h hv
  unfold extC at he
  split at he
  · rename_i hf
    have hf := of_decide_eq_true hf
    subst hf
    split at he
    · rename_i g xs us
      split at he
      · rename_i fn hfn
        split at he
        · rename_i hc
          have hc := of_decide_eq_true hc
          split at he
          · rename_i u H2 hcl
            split at he
            · rename_i b hb
              split at he
              · rename_i ho
                injection he with he; injection he with e1 e2; subst e1 e2
                obtain ⟨bd, hbd⟩ := Option.isSome_iff_exists.1 hc.2
                have eg : ∀ args w, (callFunc g args).run Tryz.prog w = .ok (.enter g args) w := fun args w => by simp [callFunc, hfn, hc.1, hbd]
                have hadd : H.add none (.live ⟨didZ.toList, 126, 0, true⟩) = some (H.n, H.push (.live ⟨didZ.toList, 126, 0, true⟩)) := rfl
                obtain ⟨s1, al1⟩ := add_stp (n := 0) L h hadd didZ (VL.of_sc (by rfl)) (fun h0 => by omega)
                generalize hp1 : updP p H.n ⟨w.heap.size, 0, 0, didZ.size⟩ = p1 at s1
                have hpn : p1 H.n = ⟨w.heap.size, 0, 0, didZ.size⟩ := by rw [← hp1]; unfold updP; rw [if_pos rfl]
                have hal0 : ∀ c, H.al c → c ≠ H.n := fun c hc e => by
                  subst e; exact hc (by unfold Hp.ent; rw [if_neg (by omega)])
                -- the argument
                obtain ⟨fv, ha, hfv⟩ : ∃ fv, args = #[fv] ∧ VR H.al p (.func (.func g) xs us) fv := by
                  obtain ⟨u', h1, h2⟩ := hv.2 0 _ rfl
                  have hl1 := hv.1
                  refine ⟨u', Array.toList_inj.1 ?_, h2⟩
                  rcases hargs : args.toList with _ | ⟨x, _ | ⟨y, r⟩⟩
                  · rw [hargs] at hl1; simp at hl1
                  · rw [hargs] at h1; simp at h1; rw [h1]
                  · rw [hargs] at hl1; simp at hl1
                subst ha
                obtain ⟨ys, vs', hfe, hys, hus⟩ : ∃ ys us', fv = .func (.func g) ys us' ∧ VL H.al p xs.toList ys.toList ∧ VL H.al p us.toList us'.toList := by
                  cases hfv with
                  | fn _ => exact ⟨#[], #[], rfl, VL.nil, VL.nil⟩
                  | clo _ xs ys us vs hl h kl k => exact ⟨ys, vs, rfl, VL.of_arr hl h, VL.of_arr kl k⟩
                subst hfe
                have hc1 := calls_of_runF hm hext n (p := p1) (w := w.alloc (.cells didZ 126)) (args := ys ++ vs') hcl s1.rel (by simpa using VL.mono s1.same (hys.append hus))
                refine (caught_ret g ys vs' eg w (fun w2 => ∃ p2, Stp L p H w p2 H2 w2 ∧ p2 H.n = p1 H.n) b.ty (hc1.mono ?_)).mono ?_
                · rintro e w2 ⟨v', p2, rfl, s2, _⟩
                  have e2 := (s2.same H.n al1).2
                  obtain ⟨cs', k1, k2, k3, _⟩ := s2.rel.own H.n b hb ho.1
                  rw [e2, hpn] at k1 k3
                  exact ⟨⟨_, rfl⟩, ⟨cs', k1, k3⟩, p2, s1.trans s2, e2⟩
                · rintro e w' ⟨rfl, w2, ⟨p2, s, e2⟩, hbut, hbk⟩
                  rw [hpn] at e2
                  have hne : ∀ j c, j ≠ H.n → H2.get j = some c → (p2 j).blk ≠ w.heap.size := fun j c hj hc e => hj (s.rel.apart H.n j b c hb hc ho.1 (by rw [e2]; exact e.symm)).symm
                  have hkeep : ∀ j c, j ≠ H.n → H2.get j = some c → w'.heap[(p2 j).blk]? = w2.heap[(p2 j).blk]? := fun j c hj hc => hbut.block _ (s.rel.lt j c hc) (fun e => hne j c hj hc (Option.some.inj e))
                  have hcs := isDidZ_eq ho.2
                  have hr : Rel p2 H2 w' := by
                    refine s.rel.upd s.rel.len H.n b hb (fun j c hj hc => ⟨hc, rfl, hkeep j c hj hc⟩) (fun c hc => ⟨hc, rfl⟩) hbut.size ?_ (s.rel.esz H.n b hb) (fun j c hj hc e => hne j c hj hc (by rw [e2] at e; exact e))
                    obtain ⟨cs', k1, k2, k3, k4⟩ := s.rel.own H.n b hb ho.1
                    refine ⟨didZ, by rw [e2]; exact hbk, by rw [e2], by rw [e2], k4, fun i v hi => ?_⟩
                    rw [hcs] at hi
                    refine ⟨v, by simpa using hi, VR.of_sc ?_⟩
                    have := List.mem_of_getElem? hi
                    have : v ∈ [Value.int .i64 0, Value.int .i64 0, Value.int .u64 0] := this
                    simp at this
                    rcases this with rfl | rfl <;> rfl
                  refine ⟨_, p2, rfl, ⟨s.same, hr, hbut.os.trans s.os, hbut.tape.trans s.tape, hbut.output.trans s.output, Nat.le_trans s.size hbut.size, fun c hc hn => (hbut.block c (Nat.lt_of_lt_of_le hc s.size) (fun e => by injection e with e; omega)).trans (s.frame c hc hn), s.mine⟩, VL.tup (xs := [.agg didZ, .bool true]) (ys := [.agg didZ, .bool true]) (VL.cons (VL.agg (xs := didZ.toList) (ys := didZ.toList) (VL.of_sc (by rfl))) (VL.cons (.bool true) VL.nil))⟩
              · cases he
            · cases he
          · cases he
        · cases he
      · cases he
    · cases he
  · exact hext L f vs H v H' p w args he h hv
/-- The reckoning's result is u. -/
def isRes (u : Value) (r : Option (Value × Hp)) : Bool := match r with
  | some (v, _) => veq 9 v u
  | none => false
theorem isRes_ok {u : Value} {r : Option (Value × Hp)} (h : isRes u r = true) : ∃ H, r = some (u, H) := by
  unfold isRes at h
  split at h
  · rename_i v H
    exact ⟨H, by rw [veq_ok 9 _ _ h]⟩
  · cases h
/-- A closed call that answers a value without addresses: so it does in whatever world. -/
theorem closed_calls {P : Program} {ext : CallF} (hm : P.follows .mixedOrders = true) (hext : CallOK P ext) {n : Nat} {f : FuncId} {vs : List Value} {u : Value} (hc : isRes u (callF P (runF P ext n) [] f vs ⟨0, []⟩) = true) (hu : sc u = true) (hr : vs.all sc = true)
    (w : World) : Calls P f vs.toArray w fun e w' => e = .returned u ∧ Fr w w' := by
  obtain ⟨H, he⟩ := isRes_ok hc
  refine (calls_of_runF hm hext n (p := fun _ => ⟨0, 0, 0, 0⟩) (args := vs.toArray) he (Rel.empty _ w) (VL.of_sc hr)).mono ?_
  rintro e w' ⟨v', p', rfl, hs, hv⟩
  have hg : ∀ i b, (⟨0, []⟩ : Hp).get i = some b → False := fun i b h => by unfold Hp.get Hp.ent at h; simp at h
  exact ⟨by rw [hv.sc_eq hu], hs.old (Nat.le_refl _) (fun i hi => by obtain ⟨b, hb, _⟩ := hi; exact (hg i b hb).elim)⟩
end Go.Proofs.YtigbldheclnmeaaGreatDoor
