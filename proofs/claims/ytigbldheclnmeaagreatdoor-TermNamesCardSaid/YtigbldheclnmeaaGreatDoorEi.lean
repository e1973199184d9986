/- The reckoner's functions. -/
import Derived.Test.YtigbldheclnmeaaGreatDoorEh
namespace Go.Proofs.YtigbldheclnmeaaGreatDoor
open Go.RowKit
set_option linter.unusedSimpArgs false
set_option linter.unusedVariables false

inductive Out where
  | normal
  | exit (id : Nat)
  | ret
abbrev Run := Lim → Code → List Value → Hp → Option (Out × List Value × Hp)
def resA (P : Program) (H : Hp) (T : List Value) : List ResultVar → Option (List Value)
  | [] => some []
  | .tmp t :: r => match resA P H T r with
    | some l => some (T.getD t undef :: l)
    | none => none
  | .cell x t :: r => match loadA P H (ev T) t (.tmp x), resA P H T r with
    | some (_, v), some l => some (v :: l)
    | _, _ => none
def oneOf (l : List Value) : Value := match l with
  | [v] => v
  | l => .tuple l.toArray
/-- A call, by what is known of code. -/
def callA (P : Program) (run : Run) : CallF := fun L f vs H =>
  match P.funcs[f]? with
  | some fn => match fn.body with
    | some c => match run L c (vs ++ List.replicate (fn.ntmps - vs.length) undef) H with
      | some (.normal, T, H') => match resA P H' T fn.results.toList with
        | some l => some (oneOf l, H')
        | none => none
      | some (.ret, T, H') => match resA P H' T fn.results.toList with
        | some l => some (oneOf l, H')
        | none => none
      | _ => none
    | none => none
  | none => none
/-- Calls of which something is known besides. -/
def alt (c1 c2 : CallF) : CallF := fun L f vs H => match c1 L f vs H with
  | some q => some q
  | none => c2 L f vs H
theorem alt_ok {P : Program} {c1 c2 : CallF} (h1 : CallOK P c1) (h2 : CallOK P c2) : CallOK P (alt c1 c2) := by
  intro L f vs H v H' p w args he h hv
  unfold alt at he
  split at he
  · rename_i q hq
    injection he with he; subst he
    exact h1 _ _ _ _ _ _ _ _ _ hq h hv
  · exact h2 _ _ _ _ _ _ _ _ _ he h hv
noncomputable def codeA (P : Program) (ext : CallF) (run : Run) : Run := fun L c T H =>
  match c with
  | .skip => some (.normal, T, H)
  | .label _ => some (.normal, T, H)
  | .exit id => some (.exit id, T, H)
  | .ret => some (.ret, T, H)
  | .region _ ops draw => match (if draw then drawA P (alt ext (callA P run)) L ops T H else opsA P (alt ext (callA P run)) L ops ops.toList T H) with
    | some (T', H') => some (.normal, T', H')
    | none => none
  | .seq x y => match run L x T H with
    | some (.normal, T', H') => run L y T' H'
    | r => r
  | .cond b x y => match ev T b with
    | some (.bool true) => run L x T H
    | some (.bool false) => run L y T H
    | _ => none
  | .block id x => match run L x T H with
    | some (.exit id', T', H') => if id' = id then some (.normal, T', H') else some (.exit id', T', H')
    | r => r
  | .loop x => match run L x T H with
    | some (.normal, T', H') => run L (.loop x) T' H'
    | r => r
  | _ => none
noncomputable def runA (P : Program) (ext : CallF) (n : Nat) : Run := Nat.rec (fun _ _ _ _ => none) (fun _ ih => codeA P ext ih) n
/-- The way out is what the reckoner says. -/
def OutIs : Out → Exit → Prop
  | .normal, e => e = .normal
  | .exit id, e => e = .exit id
  | .ret, e => e = .ret
section
variable {P : Program} {run : Run} {p p' : Nat → Pla} {H H' : Hp} {w w' : World} {T T' : List Value} {a : Act} {v : Value} {L : Lim}
def Post (L : Lim) (p : Nat → Pla) (H : Hp) (w : World) (d : List Deferred) (out : Out) (T' : List Value) (H' : Hp) : Exit → Act → World → Prop :=
  fun e a' w' => OutIs out e ∧ ∃ p', Stp L p H w p' H' w' ∧ TR H'.al p' T' a'.tmps ∧ a'.defers = d
def RunOK (P : Program) (run : Run) : Prop := ∀ L c T H out T' H' p w a, run L c T H = some (out, T', H') → Rel p H w → TR H.al p T a.tmps → c.wp P (Post L p H w a.defers out T' H') a w
theorem resA_ok {g : ResultVar → Sem Value} (h : Rel p H w) (hT : TR H.al p T a.tmps) (g1 : ∀ t, g (.tmp t) = pure (a.tmps.getD t undef)) (g2 : ∀ x t, g (.cell x t) = (do loadVar t (← asAddr (a.tmps.getD x undef)))) :
    ∀ {l : List ResultVar} {r : List Value}, resA P H T l = some r → ∃ ys : List Value, VL H.al p r ys ∧ (l.mapM g).run P w = .ok ys w
  | [], r, he => by simp [resA] at he; subst he; exact ⟨[], VL.nil, by simp⟩
  | .tmp t :: l, r, he => by
    simp only [resA] at he
    split at he
    · rename_i m hm
      injection he with he; subst he
      obtain ⟨ys, h1, h2⟩ := resA_ok h hT g1 g2 hm
      refine ⟨a.tmps.getD t undef :: ys, h1.cons (ev_ok (x := .tmp t) hT rfl), ?_⟩
      simp only [List.mapM_cons, g1, Sem.run_bind, Sem.run_pure, Result.andThen_ok, h2]
    · cases he
  | .cell x t :: l, r, he => by
    simp only [resA] at he
    split at he
    · rename_i b v m hl hm
      injection he with he; subst he
      obtain ⟨ys, h1, h2⟩ := resA_ok h hT g1 g2 hm
      obtain ⟨_, v', h3, h4⟩ := loadA_ok (a := a) h hT hl
      have h5 := h4 w (fun _ => rfl)
      have hx : ∃ ad, a.tmps.getD x undef = .pointer (some ad) := by
        unfold loadA at hl
        split at hl
        · rename_i b0 o hx
          have hv := ev_ok hT hx
          simp only [Act.eval] at hv
          generalize a.tmps.getD x undef = u at hv
          cases hv; exact ⟨_, rfl⟩
        · cases hl
      obtain ⟨ad, hx⟩ := hx
      refine ⟨v' :: ys, h1.cons h3, ?_⟩
      simp only [Instr.loadAt, Act.eval, hx, Instr.sureAddr, Sem.run_bind, Sem.run_pure, Result.andThen_ok] at h5
      have h6 : (asAddr (a.tmps.getD x undef)).run P w = .ok ad w := by rw [hx]; rfl
      simp only [List.mapM_cons, g2, Sem.run_bind, Sem.run_pure, Result.andThen_ok, h6, h5, h2]
    · cases he
theorem oneOf_ok {A : Nat → Prop} {l ys : List Value} (h : VL A p l ys) : VR A p (oneOf l) (if h : ys.toArray.size = 1 then ys.toArray[0] else .tuple ys.toArray) := by
  rcases l with _ | ⟨x, _ | ⟨y, r⟩⟩
  · rw [dif_neg (by have := h.1; simp at this; simp [← this])]
    exact h.tup
  · obtain ⟨v', h1, h2⟩ := h.2 0 x rfl
    have hl := h.1
    rcases ys with _ | ⟨z, _ | ⟨z2, s⟩⟩
    · simp at hl
    · simp at h1; subst h1
      simpa [oneOf] using h2
    · simp at hl
  · rw [dif_neg (by have := h.1; simp at this; simp [← this])]
    exact h.tup
theorem res_run {g : ResultVar → Sem Value} (h : Rel p H w) (hT : TR H.al p T a.tmps) (g1 : ∀ t, g (.tmp t) = pure (a.tmps.getD t undef)) (g2 : ∀ x t, g (.cell x t) = (do loadVar t (← asAddr (a.tmps.getD x undef))))
    {rs : Array ResultVar} {l : List Value} (hr : resA P H T rs.toList = some l) :
    ∃ v', ((do let vs ← rs.mapM g; pure (if h : vs.size = 1 then vs[0] else .tuple vs) : Sem Value)).run P w = .ok v' w ∧ VR H.al p (oneOf l) v' := by
  obtain ⟨ys, h3, h4⟩ := resA_ok h hT g1 g2 hr
  refine ⟨_, ?_, oneOf_ok h3⟩
  rw [Sem.run_bind, Array.mapM_eq_mapM_toList, Sem.run_map, h4]
  rfl
theorem callA_ok (hrun : RunOK P run) : CallOK P (callA P run) := by
  intro L f vs H v H' p w args he h hv
  unfold callA at he
  split at he
  · rename_i fn hfn
    split at he
    · rename_i c hb
      refine calls_of_wp hfn hb ?_
      have hsz : args.size = vs.length := by have := hv.1; simpa using this.symm
      have hT : TR H.al p (vs ++ List.replicate (fn.ntmps - vs.length) undef) (args ++ Array.replicate (fn.ntmps - args.size) undef) := by
        unfold TR
        rw [Array.toList_append, Array.toList_replicate, hsz]
        refine hv.append ⟨rfl, fun i u hu => ⟨u, hu, ?_⟩⟩
        obtain rfl : u = undef := by
          rw [List.getElem?_replicate] at hu
          split at hu
          · injection hu with hu; exact hu.symm
          · cases hu
        exact VR.undef
      have fin : ∀ {T' : List Value} {H1 : Hp} {l : List Value}, resA P H1 T' fn.results.toList = some l → ∀ {p1 : Nat → Pla} {w1 : World} {a1 : Act}, Stp L p H w p1 H1 w1 → TR H1.al p1 T' a1.tmps → ∃ v', (results fn a1.tmps).run P w1 = .ok v' w1 ∧ VR H1.al p1 (oneOf l) v' := by
        intro T' H1 l hr p1 w1 a1 h1 h2
        unfold results
        exact res_run h1.rel h2 (fun _ => rfl) (fun _ _ => rfl) hr
      split at he
      · rename_i T' H1 hr
        split at he
        · rename_i l hl
          injection he with he; injection he with e1 e2; subst e1 e2
          refine wp_mono (hrun _ _ _ _ _ _ _ _ _ _ hr h hT) fun e a1 w1 ⟨h1, p1, h2, h3, h4⟩ => ?_
          obtain rfl : e = .normal := h1
          obtain ⟨v', h5, h6⟩ := fin hl h2 h3
          exact ⟨h4, v', h5, v', p1, rfl, h2, h6⟩
        · cases he
      · rename_i T' H1 hr
        split at he
        · rename_i l hl
          injection he with he; injection he with e1 e2; subst e1 e2
          refine wp_mono (hrun _ _ _ _ _ _ _ _ _ _ hr h hT) fun e a1 w1 ⟨h1, p1, h2, h3, h4⟩ => ?_
          obtain rfl : e = .ret := h1
          obtain ⟨v', h5, h6⟩ := fin hl h2 h3
          exact ⟨h4, v', h5, v', p1, rfl, h2, h6⟩
        · cases he
      · cases he
    · cases he
  · cases he
theorem Post.step {d : List Deferred} {out : Out} {T1 : List Value} {H1 : Hp} (hq : Stp L p H w p' H' w') (hd : a.defers = d) {e : Exit} {a1 : Act} {w1 : World} (h : Post L p' H' w' a.defers out T1 H1 e a1 w1) : Post L p H w d out T1 H1 e a1 w1 := by
  obtain ⟨h1, p1, h2, h3, h4⟩ := h
  exact ⟨h1, p1, hq.trans h2, h3, h4.trans hd⟩
end
end Go.Proofs.YtigbldheclnmeaaGreatDoor
