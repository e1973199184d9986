/- The reckoner's regions. -/
import Derived.Test.YtigbldheclnmeaaGreatDoorEf
namespace Go.Proofs.YtigbldheclnmeaaGreatDoor
open Go.RowKit
set_option linter.unusedSimpArgs false
set_option linter.unusedVariables false

abbrev CallF := Lim → FuncId → List Value → Hp → Option (Value × Hp)
inductive OR where
  | val (v : Value) (H : Hp)
  | call (f : FuncId) (args : List Value)
  | no
def OR.of : Option (Value × Hp) → OR
  | some (v, H) => .val v H
  | none => .no
def opA (P : Program) (L : Lim) (H : Hp) (e : Operand → Option Value) (tgt : Option Nat) (o : Oper) : OR :=
  match pureA P H e o with
  | some v => .val v H
  | none => match o.op with
    | .load t x => match loadA P H e t x with
      | some (_, v) => .val v H
      | none => .no
    | .store t x y => match storeA P L H e t x y with
      | some H' => .val undef H'
      | none => .no
    | .call { callee := .builtin .append, args, argTypes } => .of (appendA P L H e tgt argTypes args)
    | .call { callee := .value f, args, .. } => match e f, evl e args.toList with
      | some (.func (.func g) fst cap), some vs => .call g (fst.toList ++ vs ++ cap.toList)
      | _, _ => .no
    | _ => .of (newA P H e tgt o)
def putT (T : List Value) (dst : Option Tmp) (v : Value) : List Value :=
  match dst with
  | some d => T.set d v
  | none => T
/-- One operation. -/
def stepA (P : Program) (call : CallF) (L : Lim) (ops : Array Oper) (tgt : Option Nat) (o : Oper) (T : List Value) (H : Hp) : Option (List Value × Hp) :=
  if Region.wanted o (yielded ops T.toArray) then
    match opA P L H (ev T) tgt o with
    | .val v H' => some (putT T o.dst v, H')
    | .call f vs => match P.funcs[f]? with
      | some fn => if fn.name ≠ "runtime.NumGoroutine" ∧ fn.body.isSome then (match call L f vs H with
        | some (v, H') => some (putT T o.dst v, H')
        | none => none) else none
      | none => none
    | .no => none
  else some (putT T o.dst undef, H)
def opsA (P : Program) (call : CallF) (L : Lim) (ops : Array Oper) : List Oper → List Value → Hp → Option (List Value × Hp)
  | [], T, H => some (T, H)
  | o :: r, T, H => match stepA P call L ops none o T H with
    | some (T', H') => opsA P call L ops r T' H'
    | none => none
/-- What the reckoner says of calls is so. -/
def CallOK (P : Program) (call : CallF) : Prop := ∀ L f vs H v H' p w (args : Array Value), call L f vs H = some (v, H') → Rel p H w → VL H.al p vs args.toList →
  Calls P f args w (fun e w' => ∃ v' p', e = .returned v' ∧ Stp L p H w p' H' w' ∧ VR H'.al p' v v')
section
variable {P : Program} {call : CallF} {p p' : Nat → Pla} {H H' : Hp} {w w' : World} {T T' : List Value} {a : Act} {v : Value} {L : Lim} {tgt : Option Nat} {ops : Array Oper} {A : Nat → Prop} {o : Oper}
theorem TR.put (h : TR A p T a.tmps) {v v' : Value} (hv : VR A p v v') (dst : Option Tmp) : TR A p (putT T dst v) (a.put dst v').tmps := by
  cases dst with
  | none => exact h
  | some d => simpa [putT, Act.put, TR] using h.set hv d
theorem put_defers (dst : Option Tmp) (v : Value) : (a.put dst v).defers = a.defers := by cases dst <;> rfl
theorem yielded_ok (h : TR A p T a.tmps) (j : Nat) : yielded ops T.toArray j = yielded ops a.tmps j := by
  unfold yielded
  cases hd : (ops[j]?).bind (·.dst) with
  | none => rfl
  | some d =>
    simp only [Option.bind_some, List.getElem?_toArray]
    cases ht : T[d]? with
    | none =>
      have hl : T.length ≤ d := by simpa using ht
      have h2 : a.tmps.size ≤ d := by have := h.1; simp at this; omega
      rw [Array.getElem?_eq_none h2]
    | some u =>
      obtain ⟨u', h1, h2⟩ := h.2 d u ht
      simp only [Array.getElem?_toList] at h1
      rw [h1]
      cases h2 <;> rfl
theorem wanted_ok (h : TR A p T a.tmps) : Region.wanted o (yielded ops T.toArray) = Region.wanted o (yielded ops a.tmps) := by
  unfold Region.wanted
  split
  · rfl
  · rw [yielded_ok h]
theorem stepA_ok (hcall : CallOK P call) (he : stepA P call L ops tgt o T H = some (T', H')) (h : Rel p H w) (hT : TR H.al p T a.tmps) {K : Act → World → Prop} {Q : Exit → Act → World → Prop}
    (hK : ∀ p' a' w', Stp L p H w p' H' w' → TR H'.al p' T' a'.tmps → a'.defers = a.defers → K a' w') :
    if Region.wanted o (yielded ops a.tmps) = true then o.wp P a w K Q else K (a.put o.dst undef) w := by
  unfold stepA at he
  rw [wanted_ok hT] at he
  split at he
  · rename_i hw
    rw [if_pos hw]
    have done : ∀ {v v' : Value} {H1 : Hp} {p1 : Nat → Pla} {w1 : World}, (execOp a.eval o).run P w = .ok (.value v') w1 → Stp L p H w p1 H1 w1 → VR H1.al p1 v v' → some (putT T o.dst v, H1) = some (T', H') → o.wp P a w K Q := by
      intro v v' H1 p1 w1 hr hs hv hq
      injection hq with hq; injection hq with e1 e2; subst e1 e2
      unfold Oper.wp; rw [hr]
      exact hK p1 _ w1 hs (TR.put (VL.mono hs.same hT) hv _) (put_defers _ _)
    cases hp : pureA P H (ev T) o with
    | some v =>
      obtain ⟨v', h1, h2⟩ := pureA_ok (a := a) h hT hp
      rw [show opA P L H (ev T) tgt o = .val v H by unfold opA; rw [hp]] at he
      exact done (h2 w) (Stp.refl h) h1 he
    | none =>
      have key : opA P L H (ev T) tgt o = (match o.op with
        | .load t x => match loadA P H (ev T) t x with
          | some (_, v) => .val v H
          | none => .no
        | .store t x y => match storeA P L H (ev T) t x y with
          | some H' => .val undef H'
          | none => .no
        | .call { callee := .builtin .append, args, argTypes } => .of (appendA P L H (ev T) tgt argTypes args)
        | .call { callee := .value f, args, .. } => match ev T f, evl (ev T) args.toList with
          | some (.func (.func g) fst cap), some vs => .call g (fst.toList ++ vs ++ cap.toList)
          | _, _ => .no
        | _ => .of (newA P H (ev T) tgt o)) := by unfold opA; rw [hp]
      rw [key] at he
      clear key hp
      split at he
      · rename_i v H1 hop
        split at hop
        · rename_i t x ho
          split at hop
          · rename_i b u hl
            injection hop with e1 e2; subst e1 e2
            obtain ⟨_, v', h1, h2⟩ := loadA_ok (a := a) h hT hl
            refine done (v' := v') (p1 := p) (w1 := w) ?_ (Stp.refl h) h1 he
            unfold execOp; simp only [ho]; rw [Sem.run_bind, h2 w (fun _ => rfl)]; rfl
          · cases hop
        · rename_i t x y ho
          split at hop
          · rename_i H2 hl
            injection hop with e1 e2; subst e1 e2
            obtain ⟨w1, h1, h2⟩ := storeA_ok (a := a) h hT hl
            injection he with he; injection he with e1 e2; subst e1 e2
            unfold Oper.wp execOp
            simp only [ho]
            rw [Sem.run_bind, h1]
            exact hK p _ w1 h2 (TR.put (VL.mono h2.same hT) VR.undef _) (put_defers _ _)
          · cases hop
        · rename_i args ats ho
          cases hq : appendA P L H (ev T) tgt ats args with
          | none => rw [hq] at hop; cases hop
          | some q =>
            obtain ⟨u, H2⟩ := q
            rw [hq] at hop
            injection hop with e1 e2; subst e1 e2
            obtain ⟨v', p1, w1, h1, h2, h3⟩ := appendA_ok (a := a) (ty := o.type) h hT hq
            refine done (v' := v') (p1 := p1) (w1 := w1) ?_ h2 h3 he
            unfold execOp; simp only [ho]
            simp [resolve, invoke, builtin, h1]
        · split at hop <;> cases hop
        · cases hq : newA P H (ev T) tgt o with
          | none => rw [hq] at hop; cases hop
          | some q =>
            obtain ⟨u, H2⟩ := q
            rw [hq] at hop
            injection hop with e1 e2; subst e1 e2
            obtain ⟨v', p1, w1, h1, h2, h3⟩ := newA_ok (a := a) L h hT hq
            exact done (v' := v') (p1 := p1) (w1 := w1) h1 h2 h3 he
      · rename_i f vs hop
        split at hop
        · split at hop <;> cases hop
        · split at hop <;> cases hop
        · rename_i args ats ho
          cases hq : appendA P L H (ev T) tgt ats args with
          | none => rw [hq] at hop; cases hop
          | some q => rw [hq] at hop; cases hop
        · rename_i xop fo args ats ho
          split at hop
          · rename_i g fst cap vs' hf hvs
            injection hop with e1 e2; subst e1 e2
            split at he
            · rename_i fn hfn
              split at he
              · rename_i hc
                split at he
                · rename_i u H2 hcl
                  injection he with he; injection he with e1 e2; subst e1 e2
                  have hv := ev_ok hT hf
                  have hargs := evl_ok hT hvs
                  have hfv : ∃ ys us, a.eval fo = .func (.func g) ys us ∧ VL H.al p fst.toList ys.toList ∧ VL H.al p cap.toList us.toList := by
                    generalize a.eval fo = z at hv
                    cases hv with
                    | fn _ => exact ⟨#[], #[], rfl, VL.nil, VL.nil⟩
                    | clo _ xs ys us vs hl h kl k => exact ⟨ys, vs, rfl, VL.of_arr hl h, VL.of_arr kl k⟩
                  obtain ⟨ys, us, hfv, hys, hus⟩ := hfv
                  have hr : (execOp a.eval o).run P w = .ok (.enter g (ys ++ args.map a.eval ++ us)) w := by
                    unfold execOp; simp only [ho]
                    obtain ⟨bd, hb⟩ := Option.isSome_iff_exists.1 hc.2
                    simp [resolve, hfv, Deferred.ofValue, invoke, callFunc, hfn, hc.1, hb]
                  unfold Oper.wp
                  rw [hr]
                  refine (hcall L g _ H u H2 p w (ys ++ args.map a.eval ++ us) hcl h (by simpa [List.append_assoc] using (hys.append hargs).append hus)).mono fun e w1 ⟨v', p1, he1, h2, h3⟩ => ?_
                  subst he1
                  exact hK p1 _ w1 h2 (TR.put (VL.mono h2.same hT) h3 _) (put_defers _ _)
                · cases he
              · cases he
            · cases he
          · cases hop
        · cases hq : newA P H (ev T) tgt o with
          | none => rw [hq] at hop; cases hop
          | some q => rw [hq] at hop; cases hop
      · cases he
  · rename_i hw
    rw [if_neg hw]
    injection he with he; injection he with e1 e2; subst e1 e2
    exact hK p _ w (Stp.refl h) (TR.put hT VR.undef _) (put_defers _ _)
theorem opsA_ok (hcall : CallOK P call) {Q : Exit → Act → World → Prop} : ∀ {l : List Oper} {T : List Value} {H : Hp} {p : Nat → Pla} {a : Act} {w : World}, opsA P call L ops l T H = some (T', H') → Rel p H w → TR H.al p T a.tmps →
    (∀ p' a' w', Stp L p H w p' H' w' → TR H'.al p' T' a'.tmps → a'.defers = a.defers → Q .normal a' w') → wpList P ops Q l a w
  | [], T, H, p, a, w, he, h, hT, hQ => by
    simp only [opsA, Option.some.injEq, Prod.mk.injEq] at he
    obtain ⟨rfl, rfl⟩ := he
    exact wpList_nil (hQ p a w (Stp.refl h) hT rfl)
  | o :: r, T, H, p, a, w, he, h, hT, hQ => by
    simp only [opsA] at he
    split at he
    · rename_i T1 H1 hs
      refine wpList_step fun K hK => stepA_ok hcall hs h hT fun p1 a1 w1 h1 h2 h3 => hK _ _ ?_
      exact opsA_ok hcall he h1.rel h2 fun p2 a2 w2 k1 k2 k3 => hQ p2 a2 w2 (h1.trans k1) k2 (k3.trans h3)
    · cases he
end
end Go.Proofs.YtigbldheclnmeaaGreatDoor
