/- What the reckoner says of a call is so. The reckoner's operations once more, each step reckoned out before it is handed on. The reckoner's blocks, regions and functions once more, each step reckoned out before it is handed on. -/
import Derived.Test.YtdipnhghdajplaaGreatDoorP05
import Derived.Test.YtdipnhghdajplaaGreatDoorP08
namespace Go.Proofs.YtdipnhghdajplaaGreatDoor
open Go.RowKit
set_option linter.unusedSimpArgs false
set_option linter.unusedVariables false

theorem least {J : Nat → Prop} (h : ∃ m, J m) : ∃ m, J m ∧ ∀ m', m' < m → ¬ J m' := by
  obtain ⟨m, hm⟩ := h
  induction m using Nat.strongRecOn with
  | _ m ih =>
    by_cases hx : ∃ m', m' < m ∧ J m'
    · obtain ⟨m', h1, h2⟩ := hx; exact ih m' h1 h2
    · exact ⟨m, hm, fun m' h1 h2 => hx ⟨m', h1, h2⟩⟩
/-- A loop whose rounds are counted. -/
theorem wp_loop_n {P : Program} {c : Code} {Q : Exit → Act → World → Prop} {a : Act} {w : World} {J : Nat → Act → World → Prop} {n : Nat} (h0 : J n a w)
    (round : ∀ m a w, J m a w → c.wp P (Exit.then (fun a' w' => ∃ m', m' < m ∧ J m' a' w') Q) a w) : (Code.loop c).wp P Q a w := by
  classical
  refine wp_loop (fun a w => ∃ m, J m a w) (fun a w => if h : ∃ m, J m a w then Classical.choose (least h) else 0) ⟨n, h0⟩ fun a w hI => ?_
  have hl := Classical.choose_spec (least hI)
  refine wp_mono (round _ a w hl.1) fun e a' w' q => ?_
  cases e with
  | normal =>
    obtain ⟨m', h1, h2⟩ := q
    refine ⟨⟨m', h2⟩, ?_⟩
    rw [dif_pos ⟨m', h2⟩, dif_pos hI]
    have h3 := Classical.choose_spec (least (J := fun m => J m a' w') ⟨m', h2⟩)
    rcases Nat.lt_or_ge m' (Classical.choose (least (J := fun m => J m a' w') ⟨m', h2⟩)) with h4 | h4
    · exact absurd h2 (h3.2 m' h4)
    · omega
  | _ => exact q
theorem runA_ok {P : Program} {ext : CallF} (hm : P.follows .mixedOrders = true) (hext : CallOK P ext) (n : Nat) : RunOK P (runA P ext n) := by
  induction n using Nat.strongRecOn with
  | _ n ih =>
    cases n with
    | zero => intro L c T H out T' H' p w a he; cases he
    | succ n =>
      have hr := ih n (Nat.lt_succ_self n)
      have hcall := alt_ok hext (callA_ok hr)
      intro L c T H out T' H' p w a he h hT
      have hd : runA P ext (n + 1) L c T H = codeA P ext (runA P ext n) L c T H := rfl
      cases c with
      | skip =>
        injection he with he; injection he with e1 e2; injection e2 with e2 e3; subst e1 e2 e3
        exact wp_skip ⟨rfl, p, Stp.refl h, hT, rfl⟩
      | label l =>
        injection he with he; injection he with e1 e2; injection e2 with e2 e3; subst e1 e2 e3
        exact wp_label ⟨rfl, p, Stp.refl h, hT, rfl⟩
      | exit id =>
        injection he with he; injection he with e1 e2; injection e2 with e2 e3; subst e1 e2 e3
        exact wp_exit ⟨rfl, p, Stp.refl h, hT, rfl⟩
      | ret =>
        injection he with he; injection he with e1 e2; injection e2 with e2 e3; subst e1 e2 e3
        exact wp_ret ⟨rfl, p, Stp.refl h, hT, rfl⟩
      | region id ops draw =>
        rw [hd] at he
        simp only [codeA] at he
        split at he
        · rename_i T1 H1 hq
          injection he with he; injection he with e1 e2; injection e2 with e2 e3; subst e1 e2 e3
          cases draw with
          | true =>
            rw [if_pos rfl] at hq
            refine wp_mono (drawA_ok hm hcall hq h hT) fun e a1 w1 hh => ?_
            cases e with
            | normal => obtain ⟨p1, h1, h2, h3⟩ := hh; exact ⟨rfl, p1, h1, h2, h3⟩
            | _ => exact hh.elim
          | false =>
            rw [if_neg (by simp)] at hq
            exact wp_region_list (opsA_ok hcall hq h hT fun p1 a1 w1 h1 h2 h3 => ⟨rfl, p1, h1, h2, h3⟩)
        · cases he
      | seq x y =>
        rw [hd] at he
        simp only [codeA] at he
        split at he
        · rename_i T1 H1 hq
          refine wp_seq (wp_mono (hr _ _ _ _ _ _ _ _ _ _ hq h hT) fun e a1 w1 hh => ?_)
          obtain ⟨h1, p1, h2, h3, h4⟩ := hh
          obtain rfl : e = .normal := h1
          exact wp_mono (hr _ _ _ _ _ _ _ _ _ _ he h2.rel h3) fun e a2 w2 hh => Post.step h2 h4 hh
        · rename_i r hne
          refine wp_seq (wp_mono (hr _ _ _ _ _ _ _ _ _ _ he h hT) fun e a1 w1 hh => ?_)
          cases e with
          | normal =>
            exfalso
            cases out with
            | normal => exact hne T' H' he
            | exit id => cases hh.1
            | ret => cases hh.1
          | _ => exact hh
      | cond b x y =>
        rw [hd] at he
        simp only [codeA] at he
        split at he
        · rename_i hb
          exact wp_cond_true (ev_sc hT hb rfl) (hr _ _ _ _ _ _ _ _ _ _ he h hT)
        · rename_i hb
          exact wp_cond_false (ev_sc hT hb rfl) (hr _ _ _ _ _ _ _ _ _ _ he h hT)
        · cases he
      | block id x =>
        rw [hd] at he
        simp only [codeA] at he
        split at he
        · rename_i id' T1 H1 hq
          refine wp_block (wp_mono (hr _ _ _ _ _ _ _ _ _ _ hq h hT) fun e a1 w1 hh => ?_)
          obtain ⟨h1, p1, h2, h3, h4⟩ := hh
          obtain rfl : e = .exit id' := h1
          simp only [Exit.inBlock]
          split at he
          · rename_i hid
            rw [if_pos hid]
            injection he with he; injection he with e1 e2; injection e2 with e2 e3; subst e1 e2 e3
            exact ⟨rfl, p1, h2, h3, h4⟩
          · rename_i hid
            rw [if_neg hid]
            injection he with he; injection he with e1 e2; injection e2 with e2 e3; subst e1 e2 e3
            exact ⟨rfl, p1, h2, h3, h4⟩
        · rename_i r hne
          refine wp_block (wp_mono (hr _ _ _ _ _ _ _ _ _ _ he h hT) fun e a1 w1 hh => ?_)
          cases e with
          | exit id' =>
            exfalso
            cases out with
            | exit id2 => exact hne id2 T' H' he
            | normal => cases hh.1
            | ret => cases hh.1
          | _ => exact hh
      | loop x =>
        refine wp_loop_n (J := fun m a1 w1 => m ≤ n + 1 ∧ ∃ T1 H1 p1, runA P ext m L (.loop x) T1 H1 = some (out, T', H') ∧ Stp L p H w p1 H1 w1 ∧ TR H1.al p1 T1 a1.tmps ∧ a1.defers = a.defers)
          (n := n + 1) ⟨Nat.le_refl _, T, H, p, he, Stp.refl h, hT, rfl⟩ fun m a1 w1 ⟨hmn, T1, H1, p1, k1, k2, k3, k4⟩ => ?_
        cases m with
        | zero => cases k1
        | succ m =>
          have hdm : runA P ext (m + 1) L (.loop x) T1 H1 = codeA P ext (runA P ext m) L (.loop x) T1 H1 := rfl
          rw [hdm] at k1
          simp only [codeA] at k1
          have hrm := ih m (by omega)
          split at k1
          · rename_i T2 H2 hq
            refine wp_mono (hrm _ _ _ _ _ _ _ _ _ _ hq k2.rel k3) fun e a2 w2 hh => ?_
            obtain ⟨h1, p2, h2, h3, h4⟩ := hh
            obtain rfl : e = .normal := h1
            exact ⟨m, Nat.lt_succ_self m, by omega, T2, H2, p2, k1, k2.trans h2, h3, h4.trans k4⟩
          · rename_i r hne
            refine wp_mono (hrm _ _ _ _ _ _ _ _ _ _ k1 k2.rel k3) fun e a2 w2 hh => ?_
            have hp := Post.step k2 k4 hh
            cases e with
            | normal =>
              exfalso
              cases out with
              | normal => exact hne T' H' k1
              | exit id => cases hh.1
              | ret => cases hh.1
            | _ => exact hp
      | rangeFunc f params assign body => cases he
      | scope b => cases he
      | goto l => cases he
      | refuse why => cases he
/-- A call that the reckoner reckons, in whatever world that holds what its heap says. -/
theorem calls_of_run {P : Program} {ext : CallF} (hm : P.follows .mixedOrders = true) (hext : CallOK P ext) (n : Nat) {L : Lim} {f : FuncId} {vs : List Value} {H H' : Hp} {v : Value} {p : Nat → Pla} {w : World} {args : Array Value}
    (he : callA P (runA P ext n) L f vs H = some (v, H')) (h : Rel p H w) (hv : VL H.al p vs args.toList) :
    Calls P f args w (fun e w' => ∃ v' p', e = .returned v' ∧ Stp L p H w p' H' w' ∧ VR H'.al p' v v') :=
  callA_ok (runA_ok hm hext n) L f vs H v H' p w args he h hv
theorem Rel.empty (p : Nat → Pla) (w : World) : Rel p ⟨0, []⟩ w := by
  have hg : ∀ i b, (⟨0, []⟩ : Hp).get i = some b → False := fun i b h => by unfold Hp.get Hp.ent at h; simp at h
  exact ⟨rfl, fun i b h => (hg i b h).elim, fun i b h => (hg i b h).elim, fun i b h => (hg i b h).elim, fun i b h => (hg i b h).elim, fun i j b c h => (hg i b h).elim⟩
end Go.Proofs.YtdipnhghdajplaaGreatDoor
namespace Go.Proofs.YtdipnhghdajplaaGreatDoor
open Go.RowKit
set_option linter.unusedSimpArgs false
set_option linter.unusedVariables false

noncomputable section
variable {α : Type}
/-- Handing on what there is. -/
def on (x : Option Value) (k : Value → α) (no : α) : α := match x with
  | some v => k v
  | none => no
@[simp] theorem on_some (v : Value) (k : Value → α) (no : α) : on (some v) k no = k v := rfl
@[simp] theorem on_none (k : Value → α) (no : α) : on none k no = no := rfl
def on2 (x : Option (Value × Hp)) (k : Value → Hp → α) (no : α) : α := match x with
  | some (v, H) => k v H
  | none => no
@[simp] theorem on2_some (v : Value) (H : Hp) (k : Value → Hp → α) (no : α) : on2 (some (v, H)) k no = k v H := rfl
@[simp] theorem on2_none (k : Value → Hp → α) (no : α) : on2 none k no = no := rfl
def evF (e : Operand → Option Value) (x : Operand) (k : Value → α) (no : α) : α := on (e x) k no
theorem evF_eq (e : Operand → Option Value) (x : Operand) (k : Value → α) (no : α) : evF e x k no = on (e x) k no := rfl
def evsF (e : Operand → Option Value) (l : List (Nat × Operand)) (k : List (Nat × Value) → α) (no : α) : α := match l with
  | [] => k []
  | (i, x) :: r => evF e x (fun v => evsF e r (fun l' => k ((i, v) :: l')) no) no
theorem evsF_eq (e : Operand → Option Value) (l : List (Nat × Operand)) (k : List (Nat × Value) → α) (no : α) : evsF e l k no = (match evs e l with | some l' => k l' | none => no) := by
  induction l generalizing k with
  | nil => rfl
  | cons a r ih =>
    obtain ⟨i, x⟩ := a
    simp only [evsF, evF_eq, evs]
    cases e x with
    | none => rfl
    | some v => simp only [on_some, ih]; cases evs e r <;> rfl
def evlF (e : Operand → Option Value) (l : List Operand) (k : List Value → α) (no : α) : α := match l with
  | [] => k []
  | x :: r => evF e x (fun v => evlF e r (fun l' => k (v :: l')) no) no
theorem evlF_eq (e : Operand → Option Value) (l : List Operand) (k : List Value → α) (no : α) : evlF e l k no = (match evl e l with | some l' => k l' | none => no) := by
  induction l generalizing k with
  | nil => rfl
  | cons x r ih =>
    simp only [evlF, evF_eq, evl]
    cases e x with
    | none => rfl
    | some v => simp only [on_some, ih]; cases evl e r <;> rfl
def runSF (P : Program) (s : Sem Value) (k : Value → α) (no : α) : α := match runP P s with
  | some v => nfV v fun v' => if sc v' then k v' else no
  | none => no
theorem runSF_eq (P : Program) (s : Sem Value) (k : Value → α) (no : α) : runSF P s k no = on (runS P s) k no := by
  unfold runSF runS
  cases runP P s with
  | none => rfl
  | some v => simp only [nfV_eq]; split <;> rfl
def partF (P : Program) (t : TypeId) (cs : List Value) (off : Nat) (k : Value → α) (no : α) : α := match isAggA P t with
  | some true => match szA P t with
    | some n => dropC cs off fun a => takeC a n fun b => k (.agg b.toArray)
    | none => no
  | some false => cellC cs off k no
  | none => no
theorem partF_eq (P : Program) (t : TypeId) (cs : List Value) (off : Nat) (k : Value → α) (no : α) : partF P t cs off k no = on (partA P t cs off) k no := by
  unfold partF partA
  cases isAggA P t with
  | none => rfl
  | some b =>
    cases b with
    | true => cases szA P t <;> simp
    | false => simp only [cellC_eq]; cases cs[off]? <;> rfl
def fieldF (P : Program) (e : Operand → Option Value) (xt : TypeId) (x : Operand) (f : Nat) (k : Value → α) (no : α) : α :=
  evF e x (fun v => match v, P.underlying xt with
    | .agg cs, some (.struct fs) => match fs[f]? with
      | some fl => partF P fl.type cs.toList fl.offset k no
      | none => no
    | _, _ => no) no
theorem fieldF_eq (P : Program) (e : Operand → Option Value) (xt : TypeId) (x : Operand) (f : Nat) (k : Value → α) (no : α) : fieldF P e xt x f k no = on (fieldA P e xt x f) k no := by
  unfold fieldF fieldA
  simp only [evF_eq, partF_eq]
  cases e x with
  | none => rfl
  | some v =>
    simp only [on_some]
    split
    · rename_i fs h1 h2 h3
      simp only [h3]
      split <;> simp_all
    · rename_i h1
      split
      · rename_i h2 h3; injection h2 with h2; exact (h1 _ _ h2 h3).elim
      · rfl
/-- A value, its numbers and its row reckoned out. -/
def nfW (v : Value) (k : Value → α) : α := match v with
  | .pointer (some ⟨b, o, none⟩) => nfN b fun b' => nfN o fun o' => k (.pointer (some ⟨b', o', none⟩))
  | .slice (some ⟨b, o, none⟩) l c => nfN b fun b' => nfN o fun o' => nfN l fun l' => nfN c fun c' => k (.slice (some ⟨b', o', none⟩) l' c')
  | .agg xs => takeC xs.toList xs.toList.length fun l => k (.agg l.toArray)
  | v => nfV v k
theorem nfW_eq (v : Value) (k : Value → α) : nfW v k = k v := by
  unfold nfW
  split
  · simp
  · simp
  · rename_i xs
    rw [takeC_eq, List.take_of_length_le (Nat.le_refl _), Array.toArray_toList]
  · simp
def pureF (P : Program) (H : Hp) (e : Operand → Option Value) (o : Oper) (k : Value → α) (no : α) : α := match o.op with
  | .move x => evF e x k no
  | .assign x => evF e x k no
  | .pick c a b => evF e c (fun v => match v with
    | .bool true => evF e a k no
    | .bool false => evF e b k no
    | _ => no) no
  | .extract t i => evF e t (fun v => match v with
    | .tuple vs => cellC vs.toList i k no
    | _ => no) no
  | .field xt x f => fieldF P e xt x f k no
  | .load .. => no
  | .store .. => no
  | .alloc .. => no
  | .box .. => no
  | .buildSlice .. => no
  | _ => on (pureA P H e o) (fun v => nfW v k) no
theorem pureF_eq (P : Program) (H : Hp) (e : Operand → Option Value) (o : Oper) (k : Value → α) (no : α) : pureF P H e o k no = on (pureA P H e o) k no := by
  unfold pureF
  split
  · rename_i x ho; rw [evF_eq]; simp only [pureA, ho]
  · rename_i x ho; rw [evF_eq]; simp only [pureA, ho]
  · rename_i c a b ho
    simp only [evF_eq, pureA, ho]
    cases e c with
    | none => rfl
    | some v =>
      cases v with
      | bool t => cases t <;> simp
      | _ => simp
  · rename_i t i ho
    simp only [evF_eq, pureA, ho, cellC_eq]
    cases e t with
    | none => rfl
    | some v =>
      cases v with
      | tuple vs => simp only [on_some, Array.getElem?_toList]; cases vs[i]? <;> rfl
      | _ => simp
  · rename_i xt x f ho; rw [fieldF_eq]; simp only [pureA, ho]
  · rename_i ho; simp only [pureA, ho, on_none]
  · rename_i ho; simp only [pureA, ho, on_none]
  · rename_i ho; simp only [pureA, ho, on_none]
  · rename_i ho; simp only [pureA, ho, on_none]
  · rename_i ho; simp only [pureA, ho, on_none]
  · congr 1; funext v; rw [nfW_eq]
def loadF (P : Program) (H : Hp) (e : Operand → Option Value) (t : TypeId) (x : Operand) (k : Nat → Value → α) (no : α) : α :=
  evF e x (fun v => match v with
    | .pointer (some ⟨b, o, none⟩) => match H.get b with
      | some blk => match isAggA P t with
        | some true => match szA P t with
          | some n => dropC blk.cs o fun d => takeC d n fun l => if l.length = n then k b (.agg l.toArray) else no
          | none => no
        | some false => cellC blk.cs o (k b) no
        | none => no
      | none => no
    | _ => no) no
def onL (x : Option (Nat × Value)) (k : Nat → Value → α) (no : α) : α := match x with
  | some (b, v) => k b v
  | none => no
theorem loadF_eq (P : Program) (H : Hp) (e : Operand → Option Value) (t : TypeId) (x : Operand) (k : Nat → Value → α) (no : α) : loadF P H e t x k no = onL (loadA P H e t x) k no := by
  unfold loadF loadA
  simp only [evF_eq, dropC_eq, takeC_eq, cellC_eq]
  cases e x with
  | none => rfl
  | some v =>
    simp only [on_some]
    split
    · rename_i b o
      simp only []
      cases hg : H.get b with
      | none => rfl
      | some blk =>
        simp only []
        cases isAggA P t with
        | none => rfl
        | some q =>
          cases q with
          | true =>
            cases szA P t with
            | none => rfl
            | some n => simp only []; split <;> rfl
          | false =>
            simp only []
            cases blk.cs[o]? <;> rfl
    · rename_i h1
      split
      · rename_i h2; injection h2 with h2; exact (h1 _ _ h2).elim
      · rfl
def Hp.putF (H : Hp) (i : Nat) (e : Ent) (k : Hp → α) : α := setC H.l (H.n - 1 - i) e fun l => k ⟨H.n, l⟩
theorem Hp.putF_eq (H : Hp) (i : Nat) (e : Ent) (k : Hp → α) : H.putF i e k = k (H.put i e) := by unfold Hp.putF Hp.put; rw [setC_eq]
def storeF (P : Program) (L : Lim) (H : Hp) (e : Operand → Option Value) (t : TypeId) (x y : Operand) (k : Hp → α) (no : α) : α :=
  evF e x (fun u => evF e y (fun v => match u with
    | .pointer (some ⟨b, o, none⟩) => match szA P t with
      | some n => match H.get b with
        | some blk => if blk.own ∧ L.ok b ∧ v.cells.toList.length = n ∧ o + n ≤ blk.cs.length ∧ v.cells.toList.all (·.oneCell') then
            takeC blk.cs o fun c1 => dropC blk.cs (o + v.cells.toList.length) fun c3 => appC v.cells.toList c3 fun c2 => appC c1 c2 fun cs => H.putF b (.live ⟨cs, blk.ty, blk.esz, blk.own⟩) k else no
        | none => no
      | none => no
    | _ => no) no) no
def onH (x : Option Hp) (k : Hp → α) (no : α) : α := match x with
  | some H => k H
  | none => no
theorem storeF_eq (P : Program) (L : Lim) (H : Hp) (e : Operand → Option Value) (t : TypeId) (x y : Operand) (k : Hp → α) (no : α) : storeF P L H e t x y k no = onH (storeA P L H e t x y) k no := by
  unfold storeF storeA
  simp only [evF_eq, dropC_eq, takeC_eq, appC_eq, Hp.putF_eq]
  cases e x with
  | none => rfl
  | some u =>
    cases e y with
    | none => simp only [on_some, on_none]; rfl
    | some v =>
      simp only [on_some]
      split
      · rename_i b o
        cases szA P t with
        | none => rfl
        | some n =>
          simp only []
          cases hg : H.get b with
          | none => rfl
          | some blk => simp only [List.append_assoc]; split <;> rfl
      · rename_i h1
        split
        · rename_i h2 h3 h4; injection h2 with h2; exact (h1 _ _ h2).elim
        · rfl
end
end Go.Proofs.YtdipnhghdajplaaGreatDoor
namespace Go.Proofs.YtdipnhghdajplaaGreatDoor
open Go.RowKit
set_option linter.unusedSimpArgs false
set_option linter.unusedVariables false

noncomputable section
variable {α : Type}
/-- A heap whose newest block, or one block, is reckoned out. -/
def Hp.addF (H : Hp) (tgt : Option Nat) (e : Ent) (k : Nat → Hp → α) (no : α) : α :=
  match tgt with
  | none => nfN (H.n + 1) fun n' => k H.n ⟨n', e :: H.l⟩
  | some i => if i < H.n then (match H.ent i with
    | .fresh => H.putF i e (k i)
    | _ => no) else no
def onA (x : Option (Nat × Hp)) (k : Nat → Hp → α) (no : α) : α := match x with
  | some (i, H) => k i H
  | none => no
theorem Hp.addF_eq (H : Hp) (tgt : Option Nat) (e : Ent) (k : Nat → Hp → α) (no : α) : H.addF tgt e k no = onA (H.add tgt e) k no := by
  unfold Hp.addF Hp.add
  cases tgt with
  | none => simp only [nfN_eq]; rfl
  | some i =>
    simp only []
    by_cases hi : i < H.n
    · rw [if_pos hi, if_pos hi]
      cases H.ent i with
      | fresh => simp only [Hp.putF_eq]; rfl
      | _ => rfl
    · rw [if_neg hi, if_neg hi]; rfl
def boxF (H : Hp) (tgt : Option Nat) (ty : TypeId) (cs : List Value) (k : Value → Hp → α) (no : α) : α :=
  takeC cs cs.length fun cs' => H.addF tgt (.live ⟨cs', ty, 0, true⟩) (fun i H' => k (.pointer (some ⟨i, 0, none⟩)) H') no
theorem boxF_eq (H : Hp) (tgt : Option Nat) (ty : TypeId) (cs : List Value) (k : Value → Hp → α) (no : α) : boxF H tgt ty cs k no = on2 (boxA H tgt ty cs) k no := by
  unfold boxF boxA
  rw [takeC_eq, List.take_of_length_le (Nat.le_refl _), Hp.addF_eq]
  cases H.add tgt (.live ⟨cs, ty, 0, true⟩) with
  | none => rfl
  | some q => rfl
def rowF (H : Hp) (tgt : Option Nat) (ty : TypeId) (esz n : Nat) (cs : List Value) (k : Value → Hp → α) (no : α) : α :=
  if cs.length = n * esz ∧ n ≤ maxLen then takeC cs cs.length fun cs' => nfN n fun n => H.addF tgt (.live ⟨cs', ty, esz, true⟩) (fun i H' => k (.slice (some ⟨i, 0, none⟩) n n) H') no else no
theorem rowF_eq (H : Hp) (tgt : Option Nat) (ty : TypeId) (esz n : Nat) (cs : List Value) (k : Value → Hp → α) (no : α) : rowF H tgt ty esz n cs k no = on2 (rowA H tgt ty esz n cs) k no := by
  unfold rowF rowA
  rw [takeC_eq, List.take_of_length_le (Nat.le_refl _), nfN_eq, Hp.addF_eq]
  split
  · cases H.add tgt (.live ⟨cs, ty, esz, true⟩) with
    | none => rfl
    | some q => rfl
  · rfl
def newF (P : Program) (H : Hp) (e : Operand → Option Value) (tgt : Option Nat) (o : Oper) (k : Value → Hp → α) (no : α) : α :=
  match o.op with
  | .alloc elem => match runP P (zeroValue elem) with
    | some z => if z.cells.toList.all sc then boxF H tgt elem z.cells.toList k no else no
    | none => no
  | .box elem x => evF e x (fun v => boxF H tgt elem v.cells.toList k no) no
  | .buildSlice t len parts => match P.underlying t with
    | some (.slice elem) => evsF e parts.toList (fun l => match szA P elem with
      | some n => match runP P (zeroValue elem) with
        | some z =>
          if len * n ≤ 2 ^ 24 ∧ ((Array.range (len * n)).map (z.cells[· % z.cells.size]!)).toList.all sc then
            (match Instr.fill (fun i => some (i * n, n)) ((Array.range (len * n)).map (z.cells[· % z.cells.size]!)) l with
            | some cs => rowF H tgt elem n len cs.toList k no
            | none => no) else no
        | none => no
      | none => no) no
    | _ => no
  | _ => on2 (newA P H e tgt o) (fun v H' => nfW v fun v' => k v' H') no
theorem newF_eq (P : Program) (H : Hp) (e : Operand → Option Value) (tgt : Option Nat) (o : Oper) (k : Value → Hp → α) (no : α) : newF P H e tgt o k no = on2 (newA P H e tgt o) k no := by
  unfold newF
  split
  · rename_i elem ho
    simp only [newA, ho, boxF_eq]
    cases runP P (zeroValue elem) with
    | none => rfl
    | some z => simp only []; split <;> rfl
  · rename_i elem x ho
    simp only [newA, ho, boxF_eq, evF_eq]
    cases e x <;> rfl
  · rename_i t len parts ho
    simp only [newA, ho, rowF_eq, evsF_eq]
    cases P.underlying t with
    | none => rfl
    | some d =>
      cases d with
      | slice elem =>
        cases evs e parts.toList with
        | none => rfl
        | some l =>
          simp only []
          cases szA P elem with
          | none => rfl
          | some n =>
            cases runP P (zeroValue elem) with
            | none => rfl
            | some z =>
              simp only []
              split
              · generalize Instr.fill _ _ _ = q
                cases q <;> rfl
              · rfl
      | _ => cases evs e parts.toList <;> rfl
  · congr 1; funext v H'; rw [nfW_eq]
def appendF (P : Program) (L : Lim) (H : Hp) (e : Operand → Option Value) (tgt : Option Nat) (ats : Array TypeId) (args : Array Operand) (k : Value → Hp → α) (no : α) : α :=
  match appendA P L H e tgt ats args with
  | some (v, H') => nfW v fun v' => match H'.l with
    | .live b :: r => takeC b.cs b.cs.length fun cs => takeC r r.length fun r' => nfN H'.n fun n => k v' ⟨n, .live ⟨cs, b.ty, b.esz, b.own⟩ :: r'⟩
    | l => k v' ⟨H'.n, l⟩
  | none => no
theorem appendF_eq (P : Program) (L : Lim) (H : Hp) (e : Operand → Option Value) (tgt : Option Nat) (ats : Array TypeId) (args : Array Operand) (k : Value → Hp → α) (no : α) : appendF P L H e tgt ats args k no = on2 (appendA P L H e tgt ats args) k no := by
  unfold appendF
  cases appendA P L H e tgt ats args with
  | none => rfl
  | some q =>
    obtain ⟨v, n, l⟩ := q
    simp only [nfW_eq, on2_some, takeC_eq, nfN_eq]
    split
    · rw [List.take_of_length_le (Nat.le_refl _), List.take_of_length_le (Nat.le_refl _)]
    · rfl
/-- What an operation that is wanted yields, and the heap behind it. -/
def stepVA (P : Program) (call : CallF) (L : Lim) (tgt : Option Nat) (o : Oper) (e : Operand → Option Value) (H : Hp) : Option (Value × Hp) :=
  match opA P L H e tgt o with
  | .val v H' => some (v, H')
  | .call f vs => match P.funcs[f]? with
    | some fn => if fn.name ≠ "runtime.NumGoroutine" ∧ fn.body.isSome then call L f vs H else none
    | none => none
  | .no => none
theorem stepA_eq (P : Program) (call : CallF) (L : Lim) (ops : Array Oper) (tgt : Option Nat) (o : Oper) (T : List Value) (H : Hp) :
    stepA P call L ops tgt o T H = if Region.wanted o (yielded ops T.toArray) then (match stepVA P call L tgt o (ev T) H with | some (v, H') => some (putT T o.dst v, H') | none => none) else some (putT T o.dst undef, H) := by
  unfold stepA stepVA
  split
  · cases opA P L H (ev T) tgt o with
    | val v H' => rfl
    | no => rfl
    | call f vs =>
      dsimp only
      cases P.funcs[f]? with
      | none => rfl
      | some fn => dsimp only; split <;> rfl
  · rfl
def stepV (P : Program) (call : CallF) (L : Lim) (tgt : Option Nat) (o : Oper) (e : Operand → Option Value) (H : Hp) (k : Value → Hp → α) (no : α) : α :=
    pureF P H e o (fun v => k v H) (match o.op with
      | .load t x => loadF P H e t x (fun _ v => k v H) no
      | .store t x y => storeF P L H e t x y (fun H' => k undef H') no
      | .call { callee := .builtin .append, args, argTypes } => appendF P L H e tgt argTypes args k no
      | .call { callee := .value f, args, .. } => evF e f (fun g => match g with
        | .func (.func g) fst cap => evlF e args.toList (fun vs => match P.funcs[g]? with
          | some fn => if fn.name ≠ "runtime.NumGoroutine" ∧ fn.body.isSome then (appC vs cap.toList fun q => appC fst.toList q fun q2 => on2 (call L g q2 H) k no) else no
          | none => no) no
        | _ => no) no
      | _ => newF P H e tgt o k no)
theorem stepV_eq (P : Program) (call : CallF) (L : Lim) (tgt : Option Nat) (o : Oper) (e : Operand → Option Value) (H : Hp) (k : Value → Hp → α) (no : α) : stepV P call L tgt o e H k no = on2 (stepVA P call L tgt o e H) k no := by
  unfold stepV stepVA
  simp only [pureF_eq, loadF_eq, storeF_eq, appendF_eq, evF_eq, evlF_eq, newF_eq]
  unfold opA
  cases pureA P H e o with
  | some v => rfl
  | none =>
    simp only [on_none]
    cases hop : o.op with
    | load t x =>
      dsimp only
      cases loadA P H e t x with
      | none => rfl
      | some q => rfl
    | store t x y =>
      dsimp only
      cases storeA P L H e t x y <;> rfl
    | call c =>
      obtain ⟨callee, args, ats⟩ := c
      cases callee with
      | builtin b =>
        cases b with
        | append =>
          dsimp only
          cases appendA P L H e tgt ats args with
          | none => rfl
          | some q => rfl
        | _ =>
          dsimp only
          cases newA P H e tgt o with
          | none => rfl
          | some q => rfl
      | invoke r m =>
        dsimp only
        cases newA P H e tgt o with
        | none => rfl
        | some q => rfl
      | value f =>
        dsimp only
        cases e f with
        | none => rfl
        | some g =>
          dsimp only [on_some]
          cases g with
          | func fn fst cap =>
            cases fn with
            | func g =>
              dsimp only
              cases evl e args.toList with
              | none => rfl
              | some vs =>
                dsimp only
                cases P.funcs[g]? with
                | none => rfl
                | some fn =>
                  simp only [appC_eq, List.append_assoc]
                  split <;> rfl
            | _ => rfl
          | _ => rfl
    | _ =>
      dsimp only
      cases newA P H e tgt o with
      | none => rfl
      | some q => rfl
/-- What stands in a frame's slots. -/
def evT (t : Tr) : Operand → Option Value
  | .tmp i => getT t i some (some undef)
  | .const v => if sc v then some v else none
  | .func f => some (.func (.func f) #[] #[])
  | .global _ => none
theorem evT_eq {t : Tr} {T : List Value} (h : RT t T) : evT t = ev T := by
  funext x
  cases x with
  | tmp i =>
    simp only [evT, ev, getT_eq, ← h i, List.getD]
    cases T[i]? <;> rfl
  | _ => rfl
def wantT (ops : Array Oper) (t : Tr) (o : Oper) : Bool :=
  match o.guard with
  | none => true
  | some (j, want) => match (ops[j]?).bind (·.dst) with
    | some d => getT t d (fun v => match v with | .bool b => b == want | _ => false) false
    | none => false
theorem wantT_eq {t : Tr} {T : List Value} (h : RT t T) (ops : Array Oper) (o : Oper) : wantT ops t o = Region.wanted o (yielded ops T.toArray) := by
  unfold wantT Region.wanted
  cases o.guard with
  | none => rfl
  | some g =>
    obtain ⟨j, want⟩ := g
    dsimp only
    unfold yielded
    cases (ops[j]?).bind (·.dst) with
    | none => rfl
    | some d =>
      simp only [getT_eq, ← h d, Option.bind_some, List.getElem?_toArray]
      cases T[d]? with
      | none => rfl
      | some v =>
        cases v with
        | bool b => cases b <;> cases want <;> rfl
        | _ => rfl
def putTr (t : Tr) (dst : Option Tmp) (v : Value) (k : Tr → α) : α := match dst with
  | some d => setT t d v k
  | none => k t
theorem putTr_sp {t : Tr} {T : List Value} (h : RT t T) (dst : Option Tmp) (v : Value) : ∃ t', (∀ {α : Type} (k : Tr → α), putTr t dst v k = k t') ∧ RT t' (putT T dst v) := by
  cases dst with
  | none => exact ⟨t, fun k => rfl, h⟩
  | some d => exact h.set d v
/-- Where a step goes on. -/
abbrev K2 (α : Type) := Tr → Hp → α
/-- A step of the one kind is a step of the other. -/
def Agree (x : Option (List Value × Hp)) (f : {α : Type} → K2 α → α → α) : Prop :=
  match x with
  | none => ∀ {α : Type} (k : K2 α) (no : α), f k no = no
  | some (T', H') => ∃ t', RT t' T' ∧ ∀ {α : Type} (k : K2 α) (no : α), f k no = k t' H'
def stepF (P : Program) (call : CallF) (L : Lim) (ops : Array Oper) (tgt : Option Nat) (o : Oper) (t : Tr) (H : Hp) (k : K2 α) (no : α) : α :=
  match wantT ops t o with
  | true => stepV P call L tgt o (evT t) H (fun v H' => putTr t o.dst v fun t' => k t' H') no
  | false => putTr t o.dst undef fun t' => k t' H
theorem stepF_sp (P : Program) (call : CallF) (L : Lim) (ops : Array Oper) (tgt : Option Nat) (o : Oper) {t : Tr} {T : List Value} (h : RT t T) (H : Hp) :
    Agree (stepA P call L ops tgt o T H) (fun k no => stepF P call L ops tgt o t H k no) := by
  rw [stepA_eq, ← wantT_eq h]
  unfold Agree stepF
  cases wantT ops t o with
  | true =>
    simp only [if_true, stepV_eq, evT_eq h]
    cases stepVA P call L tgt o (ev T) H with
    | none => exact fun k no => rfl
    | some q =>
      obtain ⟨v, H'⟩ := q
      obtain ⟨t', h1, h2⟩ := putTr_sp h o.dst v
      exact ⟨t', h2, fun k no => h1 _⟩
  | false =>
    simp only [Bool.false_eq_true, if_false]
    obtain ⟨t', h1, h2⟩ := putTr_sp h o.dst undef
    exact ⟨t', h2, fun k no => h1 _⟩
end
end Go.Proofs.YtdipnhghdajplaaGreatDoor
