/- The reckoner's functions. -/
import Derived.Test.YtdipnhghdajplaaGreatDoorP02
namespace Go.Proofs.YtdipnhghdajplaaGreatDoor
open Go.RowKit
set_option linter.unusedSimpArgs false
set_option linter.unusedVariables false
inductive Out where
 | normal
 | exit (id : Nat)
 | ret
abbrev Run := Lim → Code → List Value → Hp → Option (Out × List Value × Hp)
def resA (P : Program) (H : Hp) (T : List Value) : List ResultVar → Option (List Value)
 | [] => some []
 | .tmp t :: r => match resA P H T r with
   | some l => some (T.getD t undef :: l)
   | none => none
 | .cell x t :: r => match loadA P H (ev T) t (.tmp x), resA P H T r with
   | some (_, v), some l => some (v :: l)
   | _, _ => none
def oneOf (l : List Value) : Value := match l with
 | [v] => v
 | l => .tuple l.toArray
def callA (P : Program) (run : Run) : CallF := fun L f vs H =>
 match P.funcs[f]? with
 | some fn => match fn.body with
   | some c => match run L c (vs ++ List.replicate (fn.ntmps - vs.length) undef) H with
     | some (.normal, T, H') => match resA P H' T fn.results.toList with
       | some l => some (oneOf l, H')
       | none => none
     | some (.ret, T, H') => match resA P H' T fn.results.toList with
       | some l => some (oneOf l, H')
       | none => none
     | _ => none
   | none => none
 | none => none
def alt (c1 c2 : CallF) : CallF := fun L f vs H => match c1 L f vs H with
 | some q => some q
 | none => c2 L f vs H
theorem alt_ok {P : Program} {c1 c2 : CallF} (h1 : CallOK P c1) (h2 : CallOK P c2) : CallOK P (alt c1 c2) := by
 intro L f vs H v H' p w args he h hv
 unfold alt at he
 split at he
 · rename_i q hq
   injection he with he; subst he
   exact h1 _ _ _ _ _ _ _ _ _ hq h hv
 · exact h2 _ _ _ _ _ _ _ _ _ he h hv
noncomputable def codeA (P : Program) (ext : CallF) (run : Run) : Run := fun L c T H =>
 match c with
 | .skip => some (.normal, T, H)
 | .label _ => some (.normal, T, H)
 | .exit id => some (.exit id, T, H)
 | .ret => some (.ret, T, H)
 | .region _ ops draw => match (if draw then drawA P (alt ext (callA P run)) L ops T H else opsA P (alt ext (callA P run)) L ops ops.toList T H) with
   | some (T', H') => some (.normal, T', H')
   | none => none
 | .seq x y => match run L x T H with
   | some (.normal, T', H') => run L y T' H'
   | r => r
 | .cond b x y => match ev T b with
   | some (.bool true) => run L x T H
   | some (.bool false) => run L y T H
   | _ => none
 | .block id x => match run L x T H with
   | some (.exit id', T', H') => if id' = id then some (.normal, T', H') else some (.exit id', T', H')
   | r => r
 | .loop x => match run L x T H with
   | some (.normal, T', H') => run L (.loop x) T' H'
   | r => r
 | _ => none
noncomputable def runA (P : Program) (ext : CallF) (n : Nat) : Run := Nat.rec (fun _ _ _ _ => none) (fun _ ih => codeA P ext ih) n
def OutIs : Out → Exit → Prop
 | .normal, e => e = .normal
 | .exit id, e => e = .exit id
 | .ret, e => e = .ret
section
variable {P : Program} {run : Run} {p p' : Nat → Pla} {H H' : Hp} {w w' : World} {T T' : List Value} {a : Act} {v : Value} {L : Lim}
def Post (L : Lim) (p : Nat → Pla) (H : Hp) (w : World) (d : List Deferred) (out : Out) (T' : List Value) (H' : Hp) : Exit → Act → World → Prop :=
 fun e a' w' => OutIs out e ∧ ∃ p', Stp L p H w p' H' w' ∧ TR H'.al p' T' a'.tmps ∧ a'.defers = d
def RunOK (P : Program) (run : Run) : Prop := ∀ L c T H out T' H' p w a, run L c T H = some (out, T', H') → Rel p H w → TR H.al p T a.tmps → c.wp P (Post L p H w a.defers out T' H') a w
theorem resA_ok {g : ResultVar → Sem Value} (h : Rel p H w) (hT : TR H.al p T a.tmps) (g1 : ∀ t, g (.tmp t) = pure (a.tmps.getD t undef)) (g2 : ∀ x t, g (.cell x t) = (do loadVar t (← asAddr (a.tmps.getD x undef)))) :
   ∀ {l : List ResultVar} {r : List Value}, resA P H T l = some r → ∃ ys : List Value, VL H.al p r ys ∧ (l.mapM g).run P w = .ok ys w
 | [], r, he => by simp [resA] at he; subst he; exact ⟨[], VL.nil, by simp⟩
 | .tmp t :: l, r, he => by
   simp only [resA] at he
   split at he
   · rename_i m hm
     injection he with he; subst he
     obtain ⟨ys, h1, h2⟩ := resA_ok h hT g1 g2 hm
     refine ⟨a.tmps.getD t undef :: ys, h1.cons (ev_ok (x := .tmp t) hT rfl), ?_⟩
     simp only [List.mapM_cons, g1, Sem.run_bind, Sem.run_pure, Result.andThen_ok, h2]
   · cases he
 | .cell x t :: l, r, he => by
   simp only [resA] at he
   split at he
   · rename_i b v m hl hm
     injection he with he; subst he
     obtain ⟨ys, h1, h2⟩ := resA_ok h hT g1 g2 hm
     obtain ⟨_, v', h3, h4⟩ := loadA_ok (a := a) h hT hl
     have h5 := h4 w (fun _ => rfl)
     have hx : ∃ ad, a.tmps.getD x undef = .pointer (some ad) := by
       unfold loadA at hl
       split at hl
       · rename_i b0 o hx
         have hv := ev_ok hT hx
         simp only [Act.eval] at hv
         generalize a.tmps.getD x undef = u at hv
         cases hv; exact ⟨_, rfl⟩
       · cases hl
     obtain ⟨ad, hx⟩ := hx
     refine ⟨v' :: ys, h1.cons h3, ?_⟩
     simp only [Instr.loadAt, Act.eval, hx, Instr.sureAddr, Sem.run_bind, Sem.run_pure, Result.andThen_ok] at h5
     have h6 : (asAddr (a.tmps.getD x undef)).run P w = .ok ad w := by rw [hx]; rfl
     simp only [List.mapM_cons, g2, Sem.run_bind, Sem.run_pure, Result.andThen_ok, h6, h5, h2]
   · cases he
theorem oneOf_ok {A : Nat → Prop} {l ys : List Value} (h : VL A p l ys) : VR A p (oneOf l) (if h : ys.toArray.size = 1 then ys.toArray[0] else .tuple ys.toArray) := by
 rcases l with _ | ⟨x, _ | ⟨y, r⟩⟩
 · rw [dif_neg (by have := h.1; simp at this; simp [← this])]
   exact h.tup
 · obtain ⟨v', h1, h2⟩ := h.2 0 x rfl
   have hl := h.1
   rcases ys with _ | ⟨z, _ | ⟨z2, s⟩⟩
   · simp at hl
   · simp at h1; subst h1
     simpa [oneOf] using h2
   · simp at hl
 · rw [dif_neg (by have := h.1; simp at this; simp [← this])]
   exact h.tup
theorem res_run {g : ResultVar → Sem Value} (h : Rel p H w) (hT : TR H.al p T a.tmps) (g1 : ∀ t, g (.tmp t) = pure (a.tmps.getD t undef)) (g2 : ∀ x t, g (.cell x t) = (do loadVar t (← asAddr (a.tmps.getD x undef))))
   {rs : Array ResultVar} {l : List Value} (hr : resA P H T rs.toList = some l) :
   ∃ v', ((do let vs ← rs.mapM g; pure (if h : vs.size = 1 then vs[0] else .tuple vs) : Sem Value)).run P w = .ok v' w ∧ VR H.al p (oneOf l) v' := by
 obtain ⟨ys, h3, h4⟩ := resA_ok h hT g1 g2 hr
 refine ⟨_, ?_, oneOf_ok h3⟩
 rw [Sem.run_bind, Array.mapM_eq_mapM_toList, Sem.run_map, h4]
 rfl
theorem callA_ok (hrun : RunOK P run) : CallOK P (callA P run) := by
 intro L f vs H v H' p w args he h hv
 unfold callA at he
 split at he
 · rename_i fn hfn
   split at he
   · rename_i c hb
     refine calls_of_wp hfn hb ?_
     have hsz : args.size = vs.length := by have := hv.1; simpa using this.symm
     have hT : TR H.al p (vs ++ List.replicate (fn.ntmps - vs.length) undef) (args ++ Array.replicate (fn.ntmps - args.size) undef) := by
       unfold TR
       rw [Array.toList_append, Array.toList_replicate, hsz]
       refine hv.append ⟨rfl, fun i u hu => ⟨u, hu, ?_⟩⟩
       obtain rfl : u = undef := by
         rw [List.getElem?_replicate] at hu
         split at hu
         · injection hu with hu; exact hu.symm
         · cases hu
       exact VR.undef
     have fin : ∀ {T' : List Value} {H1 : Hp} {l : List Value}, resA P H1 T' fn.results.toList = some l → ∀ {p1 : Nat → Pla} {w1 : World} {a1 : Act}, Stp L p H w p1 H1 w1 → TR H1.al p1 T' a1.tmps → ∃ v', (results fn a1.tmps).run P w1 = .ok v' w1 ∧ VR H1.al p1 (oneOf l) v' := by
       intro T' H1 l hr p1 w1 a1 h1 h2
       unfold results
       exact res_run h1.rel h2 (fun _ => rfl) (fun _ _ => rfl) hr
     split at he
     · rename_i T' H1 hr
       split at he
       · rename_i l hl
         injection he with he; injection he with e1 e2; subst e1 e2
         refine wp_mono (hrun _ _ _ _ _ _ _ _ _ _ hr h hT) fun e a1 w1 ⟨h1, p1, h2, h3, h4⟩ => ?_
         obtain rfl : e = .normal := h1
         obtain ⟨v', h5, h6⟩ := fin hl h2 h3
         exact ⟨h4, v', h5, v', p1, rfl, h2, h6⟩
       · cases he
     · rename_i T' H1 hr
       split at he
       · rename_i l hl
         injection he with he; injection he with e1 e2; subst e1 e2
         refine wp_mono (hrun _ _ _ _ _ _ _ _ _ _ hr h hT) fun e a1 w1 ⟨h1, p1, h2, h3, h4⟩ => ?_
         obtain rfl : e = .ret := h1
         obtain ⟨v', h5, h6⟩ := fin hl h2 h3
         exact ⟨h4, v', h5, v', p1, rfl, h2, h6⟩
       · cases he
     · cases he
   · cases he
 · cases he
theorem Post.step {d : List Deferred} {out : Out} {T1 : List Value} {H1 : Hp} (hq : Stp L p H w p' H' w') (hd : a.defers = d) {e : Exit} {a1 : Act} {w1 : World} (h : Post L p' H' w' a.defers out T1 H1 e a1 w1) : Post L p H w d out T1 H1 e a1 w1 := by
 obtain ⟨h1, p1, h2, h3, h4⟩ := h
 exact ⟨h1, p1, hq.trans h2, h3, h4.trans hd⟩
end
end Go.Proofs.YtdipnhghdajplaaGreatDoor
namespace Go.Proofs.YtdipnhghdajplaaGreatDoor
open Go.RowKit
set_option linter.unusedSimpArgs false
set_option linter.unusedVariables false
theorem least {J : Nat → Prop} (h : ∃ m, J m) : ∃ m, J m ∧ ∀ m', m' < m → ¬ J m' := by
 obtain ⟨m, hm⟩ := h
 induction m using Nat.strongRecOn with
 | _ m ih =>
   by_cases hx : ∃ m', m' < m ∧ J m'
   · obtain ⟨m', h1, h2⟩ := hx; exact ih m' h1 h2
   · exact ⟨m, hm, fun m' h1 h2 => hx ⟨m', h1, h2⟩⟩
theorem wp_loop_n {P : Program} {c : Code} {Q : Exit → Act → World → Prop} {a : Act} {w : World} {J : Nat → Act → World → Prop} {n : Nat} (h0 : J n a w)
   (round : ∀ m a w, J m a w → c.wp P (Exit.then (fun a' w' => ∃ m', m' < m ∧ J m' a' w') Q) a w) : (Code.loop c).wp P Q a w := by
 classical
 refine wp_loop (fun a w => ∃ m, J m a w) (fun a w => if h : ∃ m, J m a w then Classical.choose (least h) else 0) ⟨n, h0⟩ fun a w hI => ?_
 have hl := Classical.choose_spec (least hI)
 refine wp_mono (round _ a w hl.1) fun e a' w' q => ?_
 cases e with
 | normal =>
   obtain ⟨m', h1, h2⟩ := q
   refine ⟨⟨m', h2⟩, ?_⟩
   rw [dif_pos ⟨m', h2⟩, dif_pos hI]
   have h3 := Classical.choose_spec (least (J := fun m => J m a' w') ⟨m', h2⟩)
   rcases Nat.lt_or_ge m' (Classical.choose (least (J := fun m => J m a' w') ⟨m', h2⟩)) with h4 | h4
   · exact absurd h2 (h3.2 m' h4)
   · omega
 | _ => exact q
theorem runA_ok {P : Program} {ext : CallF} (hm : P.follows .mixedOrders = true) (hext : CallOK P ext) (n : Nat) : RunOK P (runA P ext n) := by
 induction n using Nat.strongRecOn with
 | _ n ih =>
   cases n with
   | zero => intro L c T H out T' H' p w a he; cases he
   | succ n =>
     have hr := ih n (Nat.lt_succ_self n)
     have hcall := alt_ok hext (callA_ok hr)
     intro L c T H out T' H' p w a he h hT
     have hd : runA P ext (n + 1) L c T H = codeA P ext (runA P ext n) L c T H := rfl
     cases c with
     | skip =>
       injection he with he; injection he with e1 e2; injection e2 with e2 e3; subst e1 e2 e3
       exact wp_skip ⟨rfl, p, Stp.refl h, hT, rfl⟩
     | label l =>
       injection he with he; injection he with e1 e2; injection e2 with e2 e3; subst e1 e2 e3
       exact wp_label ⟨rfl, p, Stp.refl h, hT, rfl⟩
     | exit id =>
       injection he with he; injection he with e1 e2; injection e2 with e2 e3; subst e1 e2 e3
       exact wp_exit ⟨rfl, p, Stp.refl h, hT, rfl⟩
     | ret =>
       injection he with he; injection he with e1 e2; injection e2 with e2 e3; subst e1 e2 e3
       exact wp_ret ⟨rfl, p, Stp.refl h, hT, rfl⟩
     | region id ops draw =>
       rw [hd] at he
       simp only [codeA] at he
       split at he
       · rename_i T1 H1 hq
         injection he with he; injection he with e1 e2; injection e2 with e2 e3; subst e1 e2 e3
         cases draw with
         | true =>
           rw [if_pos rfl] at hq
           refine wp_mono (drawA_ok hm hcall hq h hT) fun e a1 w1 hh => ?_
           cases e with
           | normal => obtain ⟨p1, h1, h2, h3⟩ := hh; exact ⟨rfl, p1, h1, h2, h3⟩
           | _ => exact hh.elim
         | false =>
           rw [if_neg (by simp)] at hq
           exact wp_region_list (opsA_ok hcall hq h hT fun p1 a1 w1 h1 h2 h3 => ⟨rfl, p1, h1, h2, h3⟩)
       · cases he
     | seq x y =>
       rw [hd] at he
       simp only [codeA] at he
       split at he
       · rename_i T1 H1 hq
         refine wp_seq (wp_mono (hr _ _ _ _ _ _ _ _ _ _ hq h hT) fun e a1 w1 hh => ?_)
         obtain ⟨h1, p1, h2, h3, h4⟩ := hh
         obtain rfl : e = .normal := h1
         exact wp_mono (hr _ _ _ _ _ _ _ _ _ _ he h2.rel h3) fun e a2 w2 hh => Post.step h2 h4 hh
       · rename_i r hne
         refine wp_seq (wp_mono (hr _ _ _ _ _ _ _ _ _ _ he h hT) fun e a1 w1 hh => ?_)
         cases e with
         | normal =>
           exfalso
           cases out with
           | normal => exact hne T' H' he
           | exit id => cases hh.1
           | ret => cases hh.1
         | _ => exact hh
     | cond b x y =>
       rw [hd] at he
       simp only [codeA] at he
       split at he
       · rename_i hb
         exact wp_cond_true (ev_sc hT hb rfl) (hr _ _ _ _ _ _ _ _ _ _ he h hT)
       · rename_i hb
         exact wp_cond_false (ev_sc hT hb rfl) (hr _ _ _ _ _ _ _ _ _ _ he h hT)
       · cases he
     | block id x =>
       rw [hd] at he
       simp only [codeA] at he
       split at he
       · rename_i id' T1 H1 hq
         refine wp_block (wp_mono (hr _ _ _ _ _ _ _ _ _ _ hq h hT) fun e a1 w1 hh => ?_)
         obtain ⟨h1, p1, h2, h3, h4⟩ := hh
         obtain rfl : e = .exit id' := h1
         simp only [Exit.inBlock]
         split at he
         · rename_i hid
           rw [if_pos hid]
           injection he with he; injection he with e1 e2; injection e2 with e2 e3; subst e1 e2 e3
           exact ⟨rfl, p1, h2, h3, h4⟩
         · rename_i hid
           rw [if_neg hid]
           injection he with he; injection he with e1 e2; injection e2 with e2 e3; subst e1 e2 e3
           exact ⟨rfl, p1, h2, h3, h4⟩
       · rename_i r hne
         refine wp_block (wp_mono (hr _ _ _ _ _ _ _ _ _ _ he h hT) fun e a1 w1 hh => ?_)
         cases e with
         | exit id' =>
           exfalso
           cases out with
           | exit id2 => exact hne id2 T' H' he
           | normal => cases hh.1
           | ret => cases hh.1
         | _ => exact hh
     | loop x =>
       refine wp_loop_n (J := fun m a1 w1 => m ≤ n + 1 ∧ ∃ T1 H1 p1, runA P ext m L (.loop x) T1 H1 = some (out, T', H') ∧ Stp L p H w p1 H1 w1 ∧ TR H1.al p1 T1 a1.tmps ∧ a1.defers = a.defers)
         (n := n + 1) ⟨Nat.le_refl _, T, H, p, he, Stp.refl h, hT, rfl⟩ fun m a1 w1 ⟨hmn, T1, H1, p1, k1, k2, k3, k4⟩ => ?_
       cases m with
       | zero => cases k1
       | succ m =>
         have hdm : runA P ext (m + 1) L (.loop x) T1 H1 = codeA P ext (runA P ext m) L (.loop x) T1 H1 := rfl
         rw [hdm] at k1
         simp only [codeA] at k1
         have hrm := ih m (by omega)
         split at k1
         · rename_i T2 H2 hq
           refine wp_mono (hrm _ _ _ _ _ _ _ _ _ _ hq k2.rel k3) fun e a2 w2 hh => ?_
           obtain ⟨h1, p2, h2, h3, h4⟩ := hh
           obtain rfl : e = .normal := h1
           exact ⟨m, Nat.lt_succ_self m, by omega, T2, H2, p2, k1, k2.trans h2, h3, h4.trans k4⟩
         · rename_i r hne
           refine wp_mono (hrm _ _ _ _ _ _ _ _ _ _ k1 k2.rel k3) fun e a2 w2 hh => ?_
           have hp := Post.step k2 k4 hh
           cases e with
           | normal =>
             exfalso
             cases out with
             | normal => exact hne T' H' k1
             | exit id => cases hh.1
             | ret => cases hh.1
           | _ => exact hp
     | rangeFunc f params assign body => cases he
     | scope b => cases he
     | goto l => cases he
     | refuse why => cases he
theorem calls_of_run {P : Program} {ext : CallF} (hm : P.follows .mixedOrders = true) (hext : CallOK P ext) (n : Nat) {L : Lim} {f : FuncId} {vs : List Value} {H H' : Hp} {v : Value} {p : Nat → Pla} {w : World} {args : Array Value}
   (he : callA P (runA P ext n) L f vs H = some (v, H')) (h : Rel p H w) (hv : VL H.al p vs args.toList) :
   Calls P f args w (fun e w' => ∃ v' p', e = .returned v' ∧ Stp L p H w p' H' w' ∧ VR H'.al p' v v') :=
 callA_ok (runA_ok hm hext n) L f vs H v H' p w args he h hv
theorem Rel.empty (p : Nat → Pla) (w : World) : Rel p ⟨0, []⟩ w := by
 have hg : ∀ i b, (⟨0, []⟩ : Hp).get i = some b → False := fun i b h => by unfold Hp.get Hp.ent at h; simp at h
 exact ⟨rfl, fun i b h => (hg i b h).elim, fun i b h => (hg i b h).elim, fun i b h => (hg i b h).elim, fun i b h => (hg i b h).elim, fun i j b c h => (hg i b h).elim⟩
end Go.Proofs.YtdipnhghdajplaaGreatDoor
