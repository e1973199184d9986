/- The reckoner's operations once more, each step reckoned out before it is handed on. -/
import Derived.Test.YtigbldheclnmeaaGreatDoorEo
import Derived.Test.YtigbldheclnmeaaGreatDoorEj
namespace Go.Proofs.YtigbldheclnmeaaGreatDoor
open Go.RowKit
set_option linter.unusedSimpArgs false
set_option linter.unusedVariables false

noncomputable section
variable {α : Type}
/-- Handing on what there is. -/
def on (x : Option Value) (k : Value → α) (no : α) : α := match x with
  | some v => k v
  | none => no
@[simp] theorem on_some (v : Value) (k : Value → α) (no : α) : on (some v) k no = k v := rfl
@[simp] theorem on_none (k : Value → α) (no : α) : on none k no = no := rfl
def on2 (x : Option (Value × Hp)) (k : Value → Hp → α) (no : α) : α := match x with
  | some (v, H) => k v H
  | none => no
@[simp] theorem on2_some (v : Value) (H : Hp) (k : Value → Hp → α) (no : α) : on2 (some (v, H)) k no = k v H := rfl
@[simp] theorem on2_none (k : Value → Hp → α) (no : α) : on2 none k no = no := rfl
def evF (e : Operand → Option Value) (x : Operand) (k : Value → α) (no : α) : α := on (e x) k no
theorem evF_eq (e : Operand → Option Value) (x : Operand) (k : Value → α) (no : α) : evF e x k no = on (e x) k no := rfl
def evsF (e : Operand → Option Value) (l : List (Nat × Operand)) (k : List (Nat × Value) → α) (no : α) : α := match l with
  | [] => k []
  | (i, x) :: r => evF e x (fun v => evsF e r (fun l' => k ((i, v) :: l')) no) no
theorem evsF_eq (e : Operand → Option Value) (l : List (Nat × Operand)) (k : List (Nat × Value) → α) (no : α) : evsF e l k no = (match evs e l with | some l' => k l' | none => no) := by
  induction l generalizing k with
  | nil => rfl
  | cons a r ih =>
    obtain ⟨i, x⟩ := a
    simp only [evsF, evF_eq, evs]
    cases e x with
    | none => rfl
    | some v => simp only [on_some, ih]; cases evs e r <;> rfl
def evlF (e : Operand → Option Value) (l : List Operand) (k : List Value → α) (no : α) : α := match l with
  | [] => k []
  | x :: r => evF e x (fun v => evlF e r (fun l' => k (v :: l')) no) no
theorem evlF_eq (e : Operand → Option Value) (l : List Operand) (k : List Value → α) (no : α) : evlF e l k no = (match evl e l with | some l' => k l' | none => no) := by
  induction l generalizing k with
  | nil => rfl
  | cons x r ih =>
    simp only [evlF, evF_eq, evl]
    cases e x with
    | none => rfl
    | some v => simp only [on_some, ih]; cases evl e r <;> rfl
def runSF (P : Program) (s : Sem Value) (k : Value → α) (no : α) : α := match runP P s with
  | some v => nfV v fun v' => if sc v' then k v' else no
  | none => no
theorem runSF_eq (P : Program) (s : Sem Value) (k : Value → α) (no : α) : runSF P s k no = on (runS P s) k no := by
  unfold runSF runS
  cases runP P s with
  | none => rfl
  | some v => simp only [nfV_eq]; split <;> rfl
def partF (P : Program) (t : TypeId) (cs : List Value) (off : Nat) (k : Value → α) (no : α) : α := match isAggA P t with
  | some true => match szA P t with
    | some n => dropC cs off fun a => takeC a n fun b => k (.agg b.toArray)
    | none => no
  | some false => cellC cs off k no
  | none => no
theorem partF_eq (P : Program) (t : TypeId) (cs : List Value) (off : Nat) (k : Value → α) (no : α) : partF P t cs off k no = on (partA P t cs off) k no := by
  unfold partF partA
  cases isAggA P t with
  | none => rfl
  | some b =>
    cases b with
    | true => cases szA P t <;> simp
    | false => simp only [cellC_eq]; cases cs[off]? <;> rfl
def fieldF (P : Program) (e : Operand → Option Value) (xt : TypeId) (x : Operand) (f : Nat) (k : Value → α) (no : α) : α :=
  evF e x (fun v => match v, P.underlying xt with
    | .agg cs, some (.struct fs) => match fs[f]? with
      | some fl => partF P fl.type cs.toList fl.offset k no
      | none => no
    | _, _ => no) no
theorem fieldF_eq (P : Program) (e : Operand → Option Value) (xt : TypeId) (x : Operand) (f : Nat) (k : Value → α) (no : α) : fieldF P e xt x f k no = on (fieldA P e xt x f) k no := by
  unfold fieldF fieldA
  simp only [evF_eq, partF_eq]
  cases e x with
  | none => rfl
  | some v =>
    simp only [on_some]
    split
    · rename_i fs h1 h2 h3
      simp only [h3]
      split <;> simp_all
    · rename_i h1
      split
      · rename_i h2 h3; injection h2 with h2; exact (h1 _ _ h2 h3).elim
      · rfl
/-- A value, its numbers and its row reckoned out. -/
def nfW (v : Value) (k : Value → α) : α := match v with
  | .pointer (some ⟨b, o, none⟩) => nfN b fun b' => nfN o fun o' => k (.pointer (some ⟨b', o', none⟩))
  | .slice (some ⟨b, o, none⟩) l c => nfN b fun b' => nfN o fun o' => nfN l fun l' => nfN c fun c' => k (.slice (some ⟨b', o', none⟩) l' c')
  | .agg xs => takeC xs.toList xs.toList.length fun l => k (.agg l.toArray)
  | v => nfV v k
theorem nfW_eq (v : Value) (k : Value → α) : nfW v k = k v := by
  unfold nfW
  split
  · simp
  · simp
  · rename_i xs
    rw [takeC_eq, List.take_of_length_le (Nat.le_refl _), Array.toArray_toList]
  · simp
def pureF (P : Program) (H : Hp) (e : Operand → Option Value) (o : Oper) (k : Value → α) (no : α) : α := match o.op with
  | .move x => evF e x k no
  | .assign x => evF e x k no
  | .pick c a b => evF e c (fun v => match v with
    | .bool true => evF e a k no
    | .bool false => evF e b k no
    | _ => no) no
  | .extract t i => evF e t (fun v => match v with
    | .tuple vs => cellC vs.toList i k no
    | _ => no) no
  | .field xt x f => fieldF P e xt x f k no
  | .load .. => no
  | .store .. => no
  | .alloc .. => no
  | .box .. => no
  | .buildSlice .. => no
  | _ => on (pureA P H e o) (fun v => nfW v k) no
theorem pureF_eq (P : Program) (H : Hp) (e : Operand → Option Value) (o : Oper) (k : Value → α) (no : α) : pureF P H e o k no = on (pureA P H e o) k no := by
  unfold pureF
  split
  · rename_i x ho; rw [evF_eq]; simp only [pureA, ho]
  · rename_i x ho; rw [evF_eq]; simp only [pureA, ho]
  · rename_i c a b ho
    simp only [evF_eq, pureA, ho]
    cases e c with
    | none => rfl
    | some v =>
      cases v with
      | bool t => cases t <;> simp
      | _ => simp
  · rename_i t i ho
    simp only [evF_eq, pureA, ho, cellC_eq]
    cases e t with
    | none => rfl
    | some v =>
      cases v with
      | tuple vs => simp only [on_some, Array.getElem?_toList]; cases vs[i]? <;> rfl
      | _ => simp
  · rename_i xt x f ho; rw [fieldF_eq]; simp only [pureA, ho]
  · rename_i ho; simp only [pureA, ho, on_none]
  · rename_i ho; simp only [pureA, ho, on_none]
  · rename_i ho; simp only [pureA, ho, on_none]
  · rename_i ho; simp only [pureA, ho, on_none]
  · rename_i ho; simp only [pureA, ho, on_none]
  · congr 1; funext v; rw [nfW_eq]
def loadF (P : Program) (H : Hp) (e : Operand → Option Value) (t : TypeId) (x : Operand) (k : Nat → Value → α) (no : α) : α :=
  evF e x (fun v => match v with
    | .pointer (some ⟨b, o, none⟩) => match H.get b with
      | some blk => match isAggA P t with
        | some true => match szA P t with
          | some n => dropC blk.cs o fun d => takeC d n fun l => if l.length = n then k b (.agg l.toArray) else no
          | none => no
        | some false => cellC blk.cs o (k b) no
        | none => no
      | none => no
    | _ => no) no
def onL (x : Option (Nat × Value)) (k : Nat → Value → α) (no : α) : α := match x with
  | some (b, v) => k b v
  | none => no
theorem loadF_eq (P : Program) (H : Hp) (e : Operand → Option Value) (t : TypeId) (x : Operand) (k : Nat → Value → α) (no : α) : loadF P H e t x k no = onL (loadA P H e t x) k no := by
  unfold loadF loadA
  simp only [evF_eq, dropC_eq, takeC_eq, cellC_eq]
  cases e x with
  | none => rfl
  | some v =>
    simp only [on_some]
    split
    · rename_i b o
      simp only []
      cases hg : H.get b with
      | none => rfl
      | some blk =>
        simp only []
        cases isAggA P t with
        | none => rfl
        | some q =>
          cases q with
          | true =>
            cases szA P t with
            | none => rfl
            | some n => simp only []; split <;> rfl
          | false =>
            simp only []
            cases blk.cs[o]? <;> rfl
    · rename_i h1
      split
      · rename_i h2; injection h2 with h2; exact (h1 _ _ h2).elim
      · rfl
def Hp.putF (H : Hp) (i : Nat) (e : Ent) (k : Hp → α) : α := setC H.l (H.n - 1 - i) e fun l => k ⟨H.n, l⟩
theorem Hp.putF_eq (H : Hp) (i : Nat) (e : Ent) (k : Hp → α) : H.putF i e k = k (H.put i e) := by unfold Hp.putF Hp.put; rw [setC_eq]
def storeF (P : Program) (L : Lim) (H : Hp) (e : Operand → Option Value) (t : TypeId) (x y : Operand) (k : Hp → α) (no : α) : α :=
  evF e x (fun u => evF e y (fun v => match u with
    | .pointer (some ⟨b, o, none⟩) => match szA P t with
      | some n => match H.get b with
        | some blk => if blk.own ∧ L.ok b ∧ v.cells.toList.length = n ∧ o + n ≤ blk.cs.length ∧ v.cells.toList.all (·.oneCell') then
            takeC blk.cs o fun c1 => dropC blk.cs (o + v.cells.toList.length) fun c3 => appC v.cells.toList c3 fun c2 => appC c1 c2 fun cs => H.putF b (.live ⟨cs, blk.ty, blk.esz, blk.own⟩) k else no
        | none => no
      | none => no
    | _ => no) no) no
def onH (x : Option Hp) (k : Hp → α) (no : α) : α := match x with
  | some H => k H
  | none => no
theorem storeF_eq (P : Program) (L : Lim) (H : Hp) (e : Operand → Option Value) (t : TypeId) (x y : Operand) (k : Hp → α) (no : α) : storeF P L H e t x y k no = onH (storeA P L H e t x y) k no := by
  unfold storeF storeA
  simp only [evF_eq, dropC_eq, takeC_eq, appC_eq, Hp.putF_eq]
  cases e x with
  | none => rfl
  | some u =>
    cases e y with
    | none => simp only [on_some, on_none]; rfl
    | some v =>
      simp only [on_some]
      split
      · rename_i b o
        cases szA P t with
        | none => rfl
        | some n =>
          simp only []
          cases hg : H.get b with
          | none => rfl
          | some blk => simp only [List.append_assoc]; split <;> rfl
      · rename_i h1
        split
        · rename_i h2 h3 h4; injection h2 with h2; exact (h1 _ _ h2).elim
        · rfl
end
end Go.Proofs.YtigbldheclnmeaaGreatDoor
