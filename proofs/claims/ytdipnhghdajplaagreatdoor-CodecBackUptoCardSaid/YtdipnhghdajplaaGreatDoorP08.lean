/- The reckoner's operations once more, each step reckoned out before it is handed on. -/
import Derived.Test.YtdipnhghdajplaaGreatDoorP07
import Derived.Test.YtdipnhghdajplaaGreatDoorP06
namespace Go.Proofs.YtdipnhghdajplaaGreatDoor
open Go.RowKit
set_option linter.unusedSimpArgs false
set_option linter.unusedVariables false
noncomputable section
variable {α : Type}
def on (x : Option Value) (k : Value → α) (no : α) : α := match x with
 | some v => k v
 | none => no
@[simp] theorem on_some (v : Value) (k : Value → α) (no : α) : on (some v) k no = k v := rfl
@[simp] theorem on_none (k : Value → α) (no : α) : on none k no = no := rfl
def on2 (x : Option (Value × Hp)) (k : Value → Hp → α) (no : α) : α := match x with
 | some (v, H) => k v H
 | none => no
@[simp] theorem on2_some (v : Value) (H : Hp) (k : Value → Hp → α) (no : α) : on2 (some (v, H)) k no = k v H := rfl
@[simp] theorem on2_none (k : Value → Hp → α) (no : α) : on2 none k no = no := rfl
def evF (e : Operand → Option Value) (x : Operand) (k : Value → α) (no : α) : α := on (e x) k no
theorem evF_eq (e : Operand → Option Value) (x : Operand) (k : Value → α) (no : α) : evF e x k no = on (e x) k no := rfl
def evsF (e : Operand → Option Value) (l : List (Nat × Operand)) (k : List (Nat × Value) → α) (no : α) : α := match l with
 | [] => k []
 | (i, x) :: r => evF e x (fun v => evsF e r (fun l' => k ((i, v) :: l')) no) no
theorem evsF_eq (e : Operand → Option Value) (l : List (Nat × Operand)) (k : List (Nat × Value) → α) (no : α) : evsF e l k no = (match evs e l with | some l' => k l' | none => no) := by
 induction l generalizing k with
 | nil => rfl
 | cons a r ih =>
   obtain ⟨i, x⟩ := a
   simp only [evsF, evF_eq, evs]
   cases e x with
   | none => rfl
   | some v => simp only [on_some, ih]; cases evs e r <;> rfl
def evlF (e : Operand → Option Value) (l : List Operand) (k : List Value → α) (no : α) : α := match l with
 | [] => k []
 | x :: r => evF e x (fun v => evlF e r (fun l' => k (v :: l')) no) no
theorem evlF_eq (e : Operand → Option Value) (l : List Operand) (k : List Value → α) (no : α) : evlF e l k no = (match evl e l with | some l' => k l' | none => no) := by
 induction l generalizing k with
 | nil => rfl
 | cons x r ih =>
   simp only [evlF, evF_eq, evl]
   cases e x with
   | none => rfl
   | some v => simp only [on_some, ih]; cases evl e r <;> rfl
def partF (P : Program) (t : TypeId) (cs : List Value) (off : Nat) (k : Value → α) (no : α) : α := match isAggA P t with
 | some true => match szA P t with
   | some n => dropC cs off fun a => takeC a n fun b => k (.agg b.toArray)
   | none => no
 | some false => cellC cs off k no
 | none => no
theorem partF_eq (P : Program) (t : TypeId) (cs : List Value) (off : Nat) (k : Value → α) (no : α) : partF P t cs off k no = on (partA P t cs off) k no := by
 unfold partF partA
 cases isAggA P t with
 | none => rfl
 | some b =>
   cases b with
   | true => cases szA P t <;> simp
   | false => simp only [cellC_eq]; cases cs[off]? <;> rfl
def fieldF (P : Program) (e : Operand → Option Value) (xt : TypeId) (x : Operand) (f : Nat) (k : Value → α) (no : α) : α :=
 evF e x (fun v => match v, P.underlying xt with
   | .agg cs, some (.struct fs) => match fs[f]? with
     | some fl => partF P fl.type cs.toList fl.offset k no
     | none => no
   | _, _ => no) no
theorem fieldF_eq (P : Program) (e : Operand → Option Value) (xt : TypeId) (x : Operand) (f : Nat) (k : Value → α) (no : α) : fieldF P e xt x f k no = on (fieldA P e xt x f) k no := by
 unfold fieldF fieldA
 simp only [evF_eq, partF_eq]
 cases e x with
 | none => rfl
 | some v =>
   simp only [on_some]
   split
   · rename_i fs h1 h2 h3
     simp only [h3]
     split <;> simp_all
   · rename_i h1
     split
     · rename_i h2 h3; injection h2 with h2; exact (h1 _ _ h2 h3).elim
     · rfl
def nfW (v : Value) (k : Value → α) : α := match v with
 | .pointer (some ⟨b, o, none⟩) => nfN b fun b' => nfN o fun o' => k (.pointer (some ⟨b', o', none⟩))
 | .slice (some ⟨b, o, none⟩) l c => nfN b fun b' => nfN o fun o' => nfN l fun l' => nfN c fun c' => k (.slice (some ⟨b', o', none⟩) l' c')
 | .agg xs => takeC xs.toList xs.toList.length fun l => k (.agg l.toArray)
 | v => nfV v k
theorem nfW_eq (v : Value) (k : Value → α) : nfW v k = k v := by
 unfold nfW
 split
 · simp
 · simp
 · rename_i xs
   rw [takeC_eq, List.take_of_length_le (Nat.le_refl _), Array.toArray_toList]
 · simp
def pureF (P : Program) (H : Hp) (e : Operand → Option Value) (o : Oper) (k : Value → α) (no : α) : α := match o.op with
 | .move x => evF e x k no
 | .assign x => evF e x k no
 | .pick c a b => evF e c (fun v => match v with
   | .bool true => evF e a k no
   | .bool false => evF e b k no
   | _ => no) no
 | .extract t i => evF e t (fun v => match v with
   | .tuple vs => cellC vs.toList i k no
   | _ => no) no
 | .field xt x f => fieldF P e xt x f k no
 | .load .. => no
 | .store .. => no
 | .alloc .. => no
 | .box .. => no
 | .buildSlice .. => no
 | _ => on (pureA P H e o) (fun v => nfW v k) no
theorem pureF_eq (P : Program) (H : Hp) (e : Operand → Option Value) (o : Oper) (k : Value → α) (no : α) : pureF P H e o k no = on (pureA P H e o) k no := by
 unfold pureF
 split
 · rename_i x ho; rw [evF_eq]; simp only [pureA, ho]
 · rename_i x ho; rw [evF_eq]; simp only [pureA, ho]
 · rename_i c a b ho
   simp only [evF_eq, pureA, ho]
   cases e c with
   | none => rfl
   | some v =>
     cases v with
     | bool t => cases t <;> simp
     | _ => simp
 · rename_i t i ho
   simp only [evF_eq, pureA, ho, cellC_eq]
   cases e t with
   | none => rfl
   | some v =>
     cases v with
     | tuple vs => simp only [on_some, Array.getElem?_toList]; cases vs[i]? <;> rfl
     | _ => simp
 · rename_i xt x f ho; rw [fieldF_eq]; simp only [pureA, ho]
 · rename_i ho; simp only [pureA, ho, on_none]
 · rename_i ho; simp only [pureA, ho, on_none]
 · rename_i ho; simp only [pureA, ho, on_none]
 · rename_i ho; simp only [pureA, ho, on_none]
 · rename_i ho; simp only [pureA, ho, on_none]
 · congr 1; funext v; rw [nfW_eq]
def loadF (P : Program) (H : Hp) (e : Operand → Option Value) (t : TypeId) (x : Operand) (k : Nat → Value → α) (no : α) : α :=
 evF e x (fun v => match v with
   | .pointer (some ⟨b, o, none⟩) => match H.get b with
     | some blk => match isAggA P t with
       | some true => match szA P t with
         | some n => dropC blk.cs o fun d => takeC d n fun l => if l.length = n then k b (.agg l.toArray) else no
         | none => no
       | some false => cellC blk.cs o (k b) no
       | none => no
     | none => no
   | _ => no) no
def onL (x : Option (Nat × Value)) (k : Nat → Value → α) (no : α) : α := match x with
 | some (b, v) => k b v
 | none => no
theorem loadF_eq (P : Program) (H : Hp) (e : Operand → Option Value) (t : TypeId) (x : Operand) (k : Nat → Value → α) (no : α) : loadF P H e t x k no = onL (loadA P H e t x) k no := by
 unfold loadF loadA
 simp only [evF_eq, dropC_eq, takeC_eq, cellC_eq]
 cases e x with
 | none => rfl
 | some v =>
   simp only [on_some]
   split
   · rename_i b o
     simp only []
     cases hg : H.get b with
     | none => rfl
     | some blk =>
       simp only []
       cases isAggA P t with
       | none => rfl
       | some q =>
         cases q with
         | true =>
           cases szA P t with
           | none => rfl
           | some n => simp only []; split <;> rfl
         | false =>
           simp only []
           cases blk.cs[o]? <;> rfl
   · rename_i h1
     split
     · rename_i h2; injection h2 with h2; exact (h1 _ _ h2).elim
     · rfl
def Hp.putF (H : Hp) (i : Nat) (e : Ent) (k : Hp → α) : α := setC H.l (H.n - 1 - i) e fun l => k ⟨H.n, l⟩
theorem Hp.putF_eq (H : Hp) (i : Nat) (e : Ent) (k : Hp → α) : H.putF i e k = k (H.put i e) := by unfold Hp.putF Hp.put; rw [setC_eq]
def storeF (P : Program) (L : Lim) (H : Hp) (e : Operand → Option Value) (t : TypeId) (x y : Operand) (k : Hp → α) (no : α) : α :=
 evF e x (fun u => evF e y (fun v => match u with
   | .pointer (some ⟨b, o, none⟩) => match szA P t with
     | some n => match H.get b with
       | some blk => if blk.own ∧ L.ok b ∧ v.cells.toList.length = n ∧ o + n ≤ blk.cs.length ∧ v.cells.toList.all (·.oneCell') then
           takeC blk.cs o fun c1 => dropC blk.cs (o + v.cells.toList.length) fun c3 => appC v.cells.toList c3 fun c2 => appC c1 c2 fun cs => H.putF b (.live ⟨cs, blk.ty, blk.esz, blk.own⟩) k else no
       | none => no
     | none => no
   | _ => no) no) no
def onH (x : Option Hp) (k : Hp → α) (no : α) : α := match x with
 | some H => k H
 | none => no
theorem storeF_eq (P : Program) (L : Lim) (H : Hp) (e : Operand → Option Value) (t : TypeId) (x y : Operand) (k : Hp → α) (no : α) : storeF P L H e t x y k no = onH (storeA P L H e t x y) k no := by
 unfold storeF storeA
 simp only [evF_eq, dropC_eq, takeC_eq, appC_eq, Hp.putF_eq]
 cases e x with
 | none => rfl
 | some u =>
   cases e y with
   | none => simp only [on_some, on_none]; rfl
   | some v =>
     simp only [on_some]
     split
     · rename_i b o
       cases szA P t with
       | none => rfl
       | some n =>
         simp only []
         cases hg : H.get b with
         | none => rfl
         | some blk => simp only [List.append_assoc]; split <;> rfl
     · rename_i h1
       split
       · rename_i h2 h3 h4; injection h2 with h2; exact (h1 _ _ h2).elim
       · rfl
end
end Go.Proofs.YtdipnhghdajplaaGreatDoor
namespace Go.Proofs.YtdipnhghdajplaaGreatDoor
open Go.RowKit
set_option linter.unusedSimpArgs false
set_option linter.unusedVariables false
noncomputable section
variable {α : Type}
def Hp.addF (H : Hp) (tgt : Option Nat) (e : Ent) (k : Nat → Hp → α) (no : α) : α :=
 match tgt with
 | none => nfN (H.n + 1) fun n' => k H.n ⟨n', e :: H.l⟩
 | some i => if i < H.n then (match H.ent i with
   | .fresh => H.putF i e (k i)
   | _ => no) else no
def onA (x : Option (Nat × Hp)) (k : Nat → Hp → α) (no : α) : α := match x with
 | some (i, H) => k i H
 | none => no
theorem Hp.addF_eq (H : Hp) (tgt : Option Nat) (e : Ent) (k : Nat → Hp → α) (no : α) : H.addF tgt e k no = onA (H.add tgt e) k no := by
 unfold Hp.addF Hp.add
 cases tgt with
 | none => simp only [nfN_eq]; rfl
 | some i =>
   simp only []
   by_cases hi : i < H.n
   · rw [if_pos hi, if_pos hi]
     cases H.ent i with
     | fresh => simp only [Hp.putF_eq]; rfl
     | _ => rfl
   · rw [if_neg hi, if_neg hi]; rfl
def boxF (H : Hp) (tgt : Option Nat) (ty : TypeId) (cs : List Value) (k : Value → Hp → α) (no : α) : α :=
 takeC cs cs.length fun cs' => H.addF tgt (.live ⟨cs', ty, 0, true⟩) (fun i H' => k (.pointer (some ⟨i, 0, none⟩)) H') no
theorem boxF_eq (H : Hp) (tgt : Option Nat) (ty : TypeId) (cs : List Value) (k : Value → Hp → α) (no : α) : boxF H tgt ty cs k no = on2 (boxA H tgt ty cs) k no := by
 unfold boxF boxA
 rw [takeC_eq, List.take_of_length_le (Nat.le_refl _), Hp.addF_eq]
 cases H.add tgt (.live ⟨cs, ty, 0, true⟩) with
 | none => rfl
 | some q => rfl
def rowF (H : Hp) (tgt : Option Nat) (ty : TypeId) (esz n : Nat) (cs : List Value) (k : Value → Hp → α) (no : α) : α :=
 if cs.length = n * esz ∧ n ≤ maxLen then takeC cs cs.length fun cs' => nfN n fun n => H.addF tgt (.live ⟨cs', ty, esz, true⟩) (fun i H' => k (.slice (some ⟨i, 0, none⟩) n n) H') no else no
theorem rowF_eq (H : Hp) (tgt : Option Nat) (ty : TypeId) (esz n : Nat) (cs : List Value) (k : Value → Hp → α) (no : α) : rowF H tgt ty esz n cs k no = on2 (rowA H tgt ty esz n cs) k no := by
 unfold rowF rowA
 rw [takeC_eq, List.take_of_length_le (Nat.le_refl _), nfN_eq, Hp.addF_eq]
 split
 · cases H.add tgt (.live ⟨cs, ty, esz, true⟩) with
   | none => rfl
   | some q => rfl
 · rfl
def newF (P : Program) (H : Hp) (e : Operand → Option Value) (tgt : Option Nat) (o : Oper) (k : Value → Hp → α) (no : α) : α :=
 match o.op with
 | .alloc elem => match runP P (zeroValue elem) with
   | some z => if z.cells.toList.all sc then boxF H tgt elem z.cells.toList k no else no
   | none => no
 | .box elem x => evF e x (fun v => boxF H tgt elem v.cells.toList k no) no
 | .buildSlice t len parts => match P.underlying t with
   | some (.slice elem) => evsF e parts.toList (fun l => match szA P elem with
     | some n => match runP P (zeroValue elem) with
       | some z =>
         if len * n ≤ 2 ^ 24 ∧ ((Array.range (len * n)).map (z.cells[· % z.cells.size]!)).toList.all sc then
           (match Instr.fill (fun i => some (i * n, n)) ((Array.range (len * n)).map (z.cells[· % z.cells.size]!)) l with
           | some cs => rowF H tgt elem n len cs.toList k no
           | none => no) else no
       | none => no
     | none => no) no
   | _ => no
 | _ => on2 (newA P H e tgt o) (fun v H' => nfW v fun v' => k v' H') no
theorem newF_eq (P : Program) (H : Hp) (e : Operand → Option Value) (tgt : Option Nat) (o : Oper) (k : Value → Hp → α) (no : α) : newF P H e tgt o k no = on2 (newA P H e tgt o) k no := by
 unfold newF
 split
 · rename_i elem ho
   simp only [newA, ho, boxF_eq]
   cases runP P (zeroValue elem) with
   | none => rfl
   | some z => simp only []; split <;> rfl
 · rename_i elem x ho
   simp only [newA, ho, boxF_eq, evF_eq]
   cases e x <;> rfl
 · rename_i t len parts ho
   simp only [newA, ho, rowF_eq, evsF_eq]
   cases P.underlying t with
   | none => rfl
   | some d =>
     cases d with
     | slice elem =>
       cases evs e parts.toList with
       | none => rfl
       | some l =>
         simp only []
         cases szA P elem with
         | none => rfl
         | some n =>
           cases runP P (zeroValue elem) with
           | none => rfl
           | some z =>
             simp only []
             split
             · generalize Instr.fill _ _ _ = q
               cases q <;> rfl
             · rfl
     | _ => cases evs e parts.toList <;> rfl
 · congr 1; funext v H'; rw [nfW_eq]
def appendF (P : Program) (L : Lim) (H : Hp) (e : Operand → Option Value) (tgt : Option Nat) (ats : Array TypeId) (args : Array Operand) (k : Value → Hp → α) (no : α) : α :=
 match appendA P L H e tgt ats args with
 | some (v, H') => nfW v fun v' => match H'.l with
   | .live b :: r => takeC b.cs b.cs.length fun cs => takeC r r.length fun r' => nfN H'.n fun n => k v' ⟨n, .live ⟨cs, b.ty, b.esz, b.own⟩ :: r'⟩
   | l => k v' ⟨H'.n, l⟩
 | none => no
theorem appendF_eq (P : Program) (L : Lim) (H : Hp) (e : Operand → Option Value) (tgt : Option Nat) (ats : Array TypeId) (args : Array Operand) (k : Value → Hp → α) (no : α) : appendF P L H e tgt ats args k no = on2 (appendA P L H e tgt ats args) k no := by
 unfold appendF
 cases appendA P L H e tgt ats args with
 | none => rfl
 | some q =>
   obtain ⟨v, n, l⟩ := q
   simp only [nfW_eq, on2_some, takeC_eq, nfN_eq]
   split
   · rw [List.take_of_length_le (Nat.le_refl _), List.take_of_length_le (Nat.le_refl _)]
   · rfl
def stepVA (P : Program) (call : CallF) (L : Lim) (tgt : Option Nat) (o : Oper) (e : Operand → Option Value) (H : Hp) : Option (Value × Hp) :=
 match opA P L H e tgt o with
 | .val v H' => some (v, H')
 | .call f vs => match P.funcs[f]? with
   | some fn => if fn.name ≠ "runtime.NumGoroutine" ∧ fn.body.isSome then call L f vs H else none
   | none => none
 | .no => none
theorem stepA_eq (P : Program) (call : CallF) (L : Lim) (ops : Array Oper) (tgt : Option Nat) (o : Oper) (T : List Value) (H : Hp) :
   stepA P call L ops tgt o T H = if Region.wanted o (yielded ops T.toArray) then (match stepVA P call L tgt o (ev T) H with | some (v, H') => some (putT T o.dst v, H') | none => none) else some (putT T o.dst undef, H) := by
 unfold stepA stepVA
 split
 · cases opA P L H (ev T) tgt o with
   | val v H' => rfl
   | no => rfl
   | call f vs =>
     dsimp only
     cases P.funcs[f]? with
     | none => rfl
     | some fn => dsimp only; split <;> rfl
 · rfl
def stepV (P : Program) (call : CallF) (L : Lim) (tgt : Option Nat) (o : Oper) (e : Operand → Option Value) (H : Hp) (k : Value → Hp → α) (no : α) : α :=
   pureF P H e o (fun v => k v H) (match o.op with
     | .load t x => loadF P H e t x (fun _ v => k v H) no
     | .store t x y => storeF P L H e t x y (fun H' => k undef H') no
     | .call { callee := .builtin .append, args, argTypes } => appendF P L H e tgt argTypes args k no
     | .call { callee := .value f, args, .. } => evF e f (fun g => match g with
       | .func (.func g) fst cap => evlF e args.toList (fun vs => match P.funcs[g]? with
         | some fn => if fn.name ≠ "runtime.NumGoroutine" ∧ fn.body.isSome then (appC vs cap.toList fun q => appC fst.toList q fun q2 => on2 (call L g q2 H) k no) else no
         | none => no) no
       | _ => no) no
     | _ => newF P H e tgt o k no)
theorem stepV_eq (P : Program) (call : CallF) (L : Lim) (tgt : Option Nat) (o : Oper) (e : Operand → Option Value) (H : Hp) (k : Value → Hp → α) (no : α) : stepV P call L tgt o e H k no = on2 (stepVA P call L tgt o e H) k no := by
 unfold stepV stepVA
 simp only [pureF_eq, loadF_eq, storeF_eq, appendF_eq, evF_eq, evlF_eq, newF_eq]
 unfold opA
 cases pureA P H e o with
 | some v => rfl
 | none =>
   simp only [on_none]
   cases hop : o.op with
   | load t x =>
     dsimp only
     cases loadA P H e t x with
     | none => rfl
     | some q => rfl
   | store t x y =>
     dsimp only
     cases storeA P L H e t x y <;> rfl
   | call c =>
     obtain ⟨callee, args, ats⟩ := c
     cases callee with
     | builtin b =>
       cases b with
       | append =>
         dsimp only
         cases appendA P L H e tgt ats args with
         | none => rfl
         | some q => rfl
       | _ =>
         dsimp only
         cases newA P H e tgt o with
         | none => rfl
         | some q => rfl
     | invoke r m =>
       dsimp only
       cases newA P H e tgt o with
       | none => rfl
       | some q => rfl
     | value f =>
       dsimp only
       cases e f with
       | none => rfl
       | some g =>
         dsimp only [on_some]
         cases g with
         | func fn fst cap =>
           cases fn with
           | func g =>
             dsimp only
             cases evl e args.toList with
             | none => rfl
             | some vs =>
               dsimp only
               cases P.funcs[g]? with
               | none => rfl
               | some fn =>
                 simp only [appC_eq, List.append_assoc]
                 split <;> rfl
           | _ => rfl
         | _ => rfl
   | _ =>
     dsimp only
     cases newA P H e tgt o with
     | none => rfl
     | some q => rfl
def evT (t : Tr) : Operand → Option Value
 | .tmp i => getT t i some (some undef)
 | .const v => if sc v then some v else none
 | .func f => some (.func (.func f) #[] #[])
 | .global _ => none
theorem evT_eq {t : Tr} {T : List Value} (h : RT t T) : evT t = ev T := by
 funext x
 cases x with
 | tmp i =>
   simp only [evT, ev, getT_eq, ← h i, List.getD]
   cases T[i]? <;> rfl
 | _ => rfl
def wantT (ops : Array Oper) (t : Tr) (o : Oper) : Bool :=
 match o.guard with
 | none => true
 | some (j, want) => match (ops[j]?).bind (·.dst) with
   | some d => getT t d (fun v => match v with | .bool b => b == want | _ => false) false
   | none => false
theorem wantT_eq {t : Tr} {T : List Value} (h : RT t T) (ops : Array Oper) (o : Oper) : wantT ops t o = Region.wanted o (yielded ops T.toArray) := by
 unfold wantT Region.wanted
 cases o.guard with
 | none => rfl
 | some g =>
   obtain ⟨j, want⟩ := g
   dsimp only
   unfold yielded
   cases (ops[j]?).bind (·.dst) with
   | none => rfl
   | some d =>
     simp only [getT_eq, ← h d, Option.bind_some, List.getElem?_toArray]
     cases T[d]? with
     | none => rfl
     | some v =>
       cases v with
       | bool b => cases b <;> cases want <;> rfl
       | _ => rfl
def putTr (t : Tr) (dst : Option Tmp) (v : Value) (k : Tr → α) : α := match dst with
 | some d => setT t d v k
 | none => k t
theorem putTr_sp {t : Tr} {T : List Value} (h : RT t T) (dst : Option Tmp) (v : Value) : ∃ t', (∀ {α : Type} (k : Tr → α), putTr t dst v k = k t') ∧ RT t' (putT T dst v) := by
 cases dst with
 | none => exact ⟨t, fun k => rfl, h⟩
 | some d => exact h.set d v
abbrev K2 (α : Type) := Tr → Hp → α
def Agree (x : Option (List Value × Hp)) (f : {α : Type} → K2 α → α → α) : Prop :=
 match x with
 | none => ∀ {α : Type} (k : K2 α) (no : α), f k no = no
 | some (T', H') => ∃ t', RT t' T' ∧ ∀ {α : Type} (k : K2 α) (no : α), f k no = k t' H'
def stepF (P : Program) (call : CallF) (L : Lim) (ops : Array Oper) (tgt : Option Nat) (o : Oper) (t : Tr) (H : Hp) (k : K2 α) (no : α) : α :=
 match wantT ops t o with
 | true => stepV P call L tgt o (evT t) H (fun v H' => putTr t o.dst v fun t' => k t' H') no
 | false => putTr t o.dst undef fun t' => k t' H
theorem stepF_sp (P : Program) (call : CallF) (L : Lim) (ops : Array Oper) (tgt : Option Nat) (o : Oper) {t : Tr} {T : List Value} (h : RT t T) (H : Hp) :
   Agree (stepA P call L ops tgt o T H) (fun k no => stepF P call L ops tgt o t H k no) := by
 rw [stepA_eq, ← wantT_eq h]
 unfold Agree stepF
 cases wantT ops t o with
 | true =>
   simp only [if_true, stepV_eq, evT_eq h]
   cases stepVA P call L tgt o (ev T) H with
   | none => exact fun k no => rfl
   | some q =>
     obtain ⟨v, H'⟩ := q
     obtain ⟨t', h1, h2⟩ := putTr_sp h o.dst v
     exact ⟨t', h2, fun k no => h1 _⟩
 | false =>
   simp only [Bool.false_eq_true, if_false]
   obtain ⟨t', h1, h2⟩ := putTr_sp h o.dst undef
   exact ⟨t', h2, fun k no => h1 _⟩
end
end Go.Proofs.YtdipnhghdajplaaGreatDoor
namespace Go.Proofs.YtdipnhghdajplaaGreatDoor
open Go.RowKit
set_option linter.unusedSimpArgs false
set_option linter.unusedVariables false
noncomputable section
variable {α : Type}
def opsF (P : Program) (call : CallF) (L : Lim) (ops : Array Oper) (k : K2 α) (no : α) (l : List Oper) (t : Tr) (H : Hp) : α :=
 List.rec (motive := fun _ => Tr → Hp → α) (fun t H => k t H) (fun o _ ih t H => stepF P call L ops none o t H ih no) l t H
theorem opsF_sp (P : Program) (call : CallF) (L : Lim) (ops : Array Oper) : ∀ (l : List Oper) {t : Tr} {T : List Value} (h : RT t T) (H : Hp), Agree (opsA P call L ops l T H) (fun k no => opsF P call L ops k no l t H)
 | [], t, T, h, H => ⟨t, h, fun {_} k no => rfl⟩
 | o :: r, t, T, h, H => by
   have h1 := stepF_sp P call L ops none o h H
   simp only [opsA]
   unfold Agree at h1
   cases hs : stepA P call L ops none o T H with
   | none =>
     rw [hs] at h1
     exact fun {_} k no => h1 _ no
   | some q =>
     obtain ⟨T1, H1⟩ := q
     rw [hs] at h1
     obtain ⟨t1, h2, h3⟩ := h1
     have h4 := opsF_sp P call L ops r h2 H1
     unfold Agree at h4 ⊢
     dsimp only
     cases hq : opsA P call L ops r T1 H1 with
     | none => rw [hq] at h4; exact fun {_} k no => (h3 _ no).trans (h4 k no)
     | some q =>
       rw [hq] at h4
       obtain ⟨t2, h5, h6⟩ := h4
       exact ⟨t2, h5, fun {_} k no => (h3 _ no).trans (h6 k no)⟩
def takeF (P : Program) (L : Lim) (m : Bool) (H0 H : Hp) (t : Tr) (ops : Array Oper) (o : Oper) (k : Value → α) (no : α) : α :=
 match wantT ops t o with
 | true =>
   pureF P H (evT t) o k (match o.op with
     | .load ty x => loadF P H (evT t) ty x (fun b v => match H0.get b with
       | some blk => if !m || (blk.own && L.ok b) then no else k v
       | none => no) no
     | _ => no)
 | false => k undef
theorem takeF_eq (P : Program) (L : Lim) (m : Bool) (H0 H : Hp) {t : Tr} {T : List Value} (h : RT t T) (ops : Array Oper) (o : Oper) (k : Value → α) (no : α) : takeF P L m H0 H t ops o k no = on (takeV P L m H0 H T ops o) k no := by
 unfold takeF takeV
 rw [← wantT_eq h]
 cases wantT ops t o with
 | true =>
   simp only [if_true, pureF_eq, loadF_eq, evT_eq h]
   cases pureA P H (ev T) o with
   | some v => rfl
   | none =>
     dsimp only [on_none]
     cases o.op with
     | load ty x =>
       dsimp only
       cases loadA P H (ev T) ty x with
       | none => rfl
       | some q =>
         obtain ⟨b, v⟩ := q
         dsimp only [onL]
         cases H0.get b with
         | none => rfl
         | some blk => dsimp only; split <;> rfl
     | _ => rfl
 | false => rfl
def all2 (f : Value → Value → Bool) : List Value → List Value → Bool
 | [], [] => true
 | x :: r, y :: s => f x y && all2 f r s
 | _, _ => false
def veq : Nat → Value → Value → Bool
 | 0 => fun _ _ => false
 | n + 1 => fun x y => match x, y with
   | .bool a, .bool b => a == b
   | .int k a, .int l b => decide (k = l) && decide (a = b)
   | .string a, .string b => decide (a.data.toList = b.data.toList)
   | .pointer a, .pointer b => decide (a = b)
   | .slice a l c, .slice b m d => decide (a = b) && decide (l = m) && decide (c = d)
   | .nilIface, .nilIface => true
   | .nilFunc, .nilFunc => true
   | .agg a, .agg b => all2 (veq n) a.toList b.toList
   | .tuple a, .tuple b => all2 (veq n) a.toList b.toList
   | .func (.func f) a b, .func (.func g) c d => decide (f = g) && (all2 (veq n) a.toList c.toList && all2 (veq n) b.toList d.toList)
   | _, _ => false
theorem all2_ok {f : Value → Value → Bool} (hf : ∀ x y, f x y = true → x = y) : ∀ (l m : List Value), all2 f l m = true → l = m
 | [], [], _ => rfl
 | x :: r, y :: s, h => by
   simp only [all2, Bool.and_eq_true] at h
   rw [hf x y h.1, all2_ok hf r s h.2]
 | [], _ :: _, h => by simp [all2] at h
 | _ :: _, [], h => by simp [all2] at h
theorem veq_ok : ∀ (n : Nat) (x y : Value), veq n x y = true → x = y
 | 0, _, _, h => by simp [veq] at h
 | n + 1, x, y, h => by
   unfold veq at h
   split at h
   · simp at h; rw [h]
   · simp at h; rw [h.1, h.2]
   · rename_i a b
     have h : a.data.toList = b.data.toList := by simpa using h
     have : a = b := ByteArray.ext (Array.toList_inj.1 h)
     rw [this]
   · simp at h; rw [h]
   · simp at h; rw [h.1.1, h.1.2, h.2]
   · rfl
   · rfl
   · rw [Array.toList_inj.1 (all2_ok (veq_ok n) _ _ h)]
   · rw [Array.toList_inj.1 (all2_ok (veq_ok n) _ _ h)]
   · simp only [Bool.and_eq_true, decide_eq_true_eq] at h
     rw [h.1, Array.toList_inj.1 (all2_ok (veq_ok n) _ _ h.2.1), Array.toList_inj.1 (all2_ok (veq_ok n) _ _ h.2.2)]
   · cases h
def teq : Tr → Tr → Bool
 | .leaf, .leaf => true
 | .node v l r, .node v' l' r' => veq 9 v v' && teq l l' && teq r r'
 | _, _ => false
theorem teq_ok : ∀ (t t' : Tr), teq t t' = true → t = t'
 | .leaf, .leaf, _ => rfl
 | .node v l r, .node v' l' r', h => by
   simp only [teq, Bool.and_eq_true] at h
   rw [veq_ok 9 v v' h.1.1, teq_ok l l' h.1.2, teq_ok r r' h.2]
 | .leaf, .node .., h => by simp [teq] at h
 | .node .., .leaf, h => by simp [teq] at h
def eeq : List Ent → List Ent → Bool
 | [], [] => true
 | .fresh :: r, .fresh :: s => eeq r s
 | .dead :: r, .dead :: s => eeq r s
 | .live a :: r, .live b :: s => all2 (veq 9) a.cs b.cs && decide (a.ty = b.ty) && decide (a.esz = b.esz) && a.own == b.own && eeq r s
 | _, _ => false
theorem eeq_ok : ∀ (l m : List Ent), eeq l m = true → l = m
 | [], [], _ => rfl
 | .fresh :: r, .fresh :: s, h => by rw [eeq_ok r s h]
 | .dead :: r, .dead :: s, h => by rw [eeq_ok r s h]
 | .live ⟨c, t, e, o⟩ :: r, .live ⟨c', t', e', o'⟩ :: s, h => by
   simp [eeq] at h
   obtain ⟨⟨⟨⟨h1, h2⟩, h3⟩, h4⟩, h5⟩ := h
   rw [all2_ok (veq_ok 9) _ _ h1, h2, h3, h4, eeq_ok r s h5]
 | [], _ :: _, h => by simp [eeq] at h
 | _ :: _, [], h => by simp [eeq] at h
 | .fresh :: _, .dead :: _, h => by simp [eeq] at h
 | .fresh :: _, .live _ :: _, h => by simp [eeq] at h
 | .dead :: _, .fresh :: _, h => by simp [eeq] at h
 | .dead :: _, .live _ :: _, h => by simp [eeq] at h
 | .live _ :: _, .fresh :: _, h => by simp [eeq] at h
 | .live _ :: _, .dead :: _, h => by simp [eeq] at h
def sameS (x y : Option (Tr × Hp)) : Option (Tr × Hp) := match x, y with
 | some (t, H), some (t', H') => if teq t t' && (decide (H.n = H'.n) && eeq H.l H'.l) then some (t, H) else none
 | _, _ => none
theorem sameS_ok {x y : Option (Tr × Hp)} {q : Tr × Hp} (h : sameS x y = some q) : x = some q ∧ y = some q := by
 unfold sameS at h
 split at h
 · rename_i t H t' H'
   split at h
   · rename_i hc
     simp only [Bool.and_eq_true, decide_eq_true_eq] at hc
     injection h with h; subst h
     have h1 := teq_ok _ _ hc.1
     have h2 := eeq_ok _ _ hc.2.2
     obtain ⟨n, l⟩ := H
     obtain ⟨n', l'⟩ := H'
     have h3 := hc.2.1
     simp only at h2 h3
     subst h1 h2 h3
     exact ⟨rfl, rfl⟩
   · cases h
 · cases h
def followF (P : Program) (call : CallF) (L L1 : Lim) (ops : Array Oper) (base : Option Nat) (H0 : Hp) (m : Bool) (pl : Pl) (t : Tr) (H : Hp) : Option (Tr × Hp) :=
 Pl.rec (motive := fun _ => Bool → Tr → Hp → Option (Tr × Hp)) (fun _ t H => some (t, H))
   (fun i _ ih m t H => match ops[i]? with
     | some o => takeF P L1 m H0 H t ops o (fun v => putTr t o.dst v fun t' => ih m t' H) none
     | none => none)
   (fun i _ ih m t H => match ops[i]? with
     | some o => match m && early ops i, early ops i with
       | true, _ => stepF P call L1 ops (base.map (· + i)) o t H (ih true) none
       | false, false => stepF P call L ops (base.map (· + i)) o t H (ih false) none
       | false, true => none
     | none => none)
   (fun i j _ _ ihi ihj m t H => match ops[i]?, ops[j]? with
     | some oi, some oj => match m with
       | true => sameS (stepF P call L1 ops (base.map (· + i)) oi t H (ihi true) none) (stepF P call L1 ops (base.map (· + j)) oj t H (ihj true) none)
       | false => none
     | _, _ => none)
   (fun i j k _ _ _ ihi ihj ihk m t H => match ops[i]?, ops[j]?, ops[k]? with
     | some oi, some oj, some ok => match m with
       | true => sameS (sameS (stepF P call L1 ops (base.map (· + i)) oi t H (ihi true) none) (stepF P call L1 ops (base.map (· + j)) oj t H (ihj true) none)) (stepF P call L1 ops (base.map (· + k)) ok t H (ihk true) none)
       | false => none
     | _, _, _ => none) pl m t H
theorem step_inv {P : Program} {call : CallF} {L : Lim} {ops : Array Oper} {tgt : Option Nat} {o : Oper} {t : Tr} {T : List Value} (h : RT t T) {H : Hp} {β : Type} {k : K2 (Option β)} {r : β} (he : stepF P call L ops tgt o t H k none = some r) :
   ∃ T' H' t', stepA P call L ops tgt o T H = some (T', H') ∧ RT t' T' ∧ k t' H' = some r := by
 have h1 := stepF_sp P call L ops tgt o h H
 unfold Agree at h1
 cases hs : stepA P call L ops tgt o T H with
 | none => rw [hs] at h1; have := (h1 k none).symm.trans he; cases this
 | some q =>
   obtain ⟨T', H'⟩ := q
   rw [hs] at h1
   obtain ⟨t', h2, h3⟩ := h1
   exact ⟨T', H', t', rfl, h2, (h3 k none).symm.trans he⟩
theorem RT.inj {t : Tr} {T T' : List Value} (h : RT t T) (h' : RT t T') : T = T' := by
 apply List.ext_getElem?
 intro i
 rw [h i, h' i]
theorem followF_sp (P : Program) (call : CallF) (L L1 : Lim) (ops : Array Oper) (base : Option Nat) (H0 : Hp) : ∀ (pl : Pl) (m : Bool) {t : Tr} {T : List Value} (h : RT t T) (H : Hp) {t' : Tr} {H' : Hp},
   followF P call L L1 ops base H0 m pl t H = some (t', H') → ∃ T', RT t' T' ∧ followA P call L L1 ops base H0 m pl T H = some (T', H')
 | .done, m, t, T, h, H, t', H', he => by
   injection he with he; injection he with e1 e2; subst e1 e2
   exact ⟨T, h, rfl⟩
 | .take i r, m, t, T, h, H, t', H', he => by
   have he : (match ops[i]? with
     | some o => takeF P L1 m H0 H t ops o (fun v => putTr t o.dst v fun t' => followF P call L L1 ops base H0 m r t' H) none
     | none => none) = some (t', H') := he
   simp only [followA]
   cases ho : ops[i]? with
   | none => rw [ho] at he; cases he
   | some o =>
     rw [ho] at he
     simp only [takeF_eq P L1 m H0 H h] at he ⊢
     cases hv : takeV P L1 m H0 H T ops o with
     | none => rw [hv] at he; cases he
     | some v =>
       rw [hv] at he
       obtain ⟨t1, h1, h2⟩ := putTr_sp h o.dst v
       simp only [on_some, h1] at he
       exact followF_sp P call L L1 ops base H0 r m h2 H he
 | .one i r, m, t, T, h, H, t', H', he => by
   have he : (match ops[i]? with
     | some o => match m && early ops i, early ops i with
       | true, _ => stepF P call L1 ops (base.map (· + i)) o t H (fun t' H' => followF P call L L1 ops base H0 true r t' H') none
       | false, false => stepF P call L ops (base.map (· + i)) o t H (fun t' H' => followF P call L L1 ops base H0 false r t' H') none
       | false, true => none
     | none => none) = some (t', H') := he
   simp only [followA]
   cases ho : ops[i]? with
   | none => rw [ho] at he; cases he
   | some o =>
     rw [ho] at he
     dsimp only at he ⊢
     cases hm : (m && early ops i) with
     | true =>
       rw [hm] at he
       obtain ⟨T1, H1, t1, h1, h2, h3⟩ := step_inv h he
       dsimp only
       rw [h1]
       exact followF_sp P call L L1 ops base H0 r true h2 H1 h3
     | false =>
       rw [hm] at he
       cases hee : early ops i with
       | true => rw [hee] at he; cases he
       | false =>
         rw [hee] at he
         obtain ⟨T1, H1, t1, h1, h2, h3⟩ := step_inv h he
         dsimp only
         rw [h1]
         exact followF_sp P call L L1 ops base H0 r false h2 H1 h3
 | .two i j ri rj, false, t, T, h, H, t', H', he => by
   have he : (match ops[i]?, ops[j]? with
     | some oi, some oj => (none : Option (Tr × Hp))
     | _, _ => none) = some (t', H') := he
   split at he <;> cases he
 | .two i j ri rj, true, t, T, h, H, t', H', he => by
   have he : (match ops[i]?, ops[j]? with
     | some oi, some oj => sameS (stepF P call L1 ops (base.map (· + i)) oi t H (fun t' H' => followF P call L L1 ops base H0 true ri t' H') none) (stepF P call L1 ops (base.map (· + j)) oj t H (fun t' H' => followF P call L L1 ops base H0 true rj t' H') none)
     | _, _ => none) = some (t', H') := he
   simp only [followA]
   cases hoi : ops[i]? with
   | none => rw [hoi] at he; cases he
   | some oi =>
     cases hoj : ops[j]? with
     | none => rw [hoi, hoj] at he; cases he
     | some oj =>
       rw [hoi, hoj] at he
       obtain ⟨g1, g2⟩ := sameS_ok he
       obtain ⟨T1, H1, t1, a1, a2, a3⟩ := step_inv h g1
       obtain ⟨T2, H2, t2, b1, b2, b3⟩ := step_inv h g2
       obtain ⟨T3, a4, a5⟩ := followF_sp P call L L1 ops base H0 ri true a2 H1 a3
       obtain ⟨T4, b4, b5⟩ := followF_sp P call L L1 ops base H0 rj true b2 H2 b3
       refine ⟨T3, a4, ?_⟩
       dsimp only
       rw [a1, b1]
       dsimp only
       rw [a5, b5, RT.inj a4 b4]
       simp
 | .three i j k ri rj rk, false, t, T, h, H, t', H', he => by
   have he : (match ops[i]?, ops[j]?, ops[k]? with
     | some oi, some oj, some ok => (none : Option (Tr × Hp))
     | _, _, _ => none) = some (t', H') := he
   split at he <;> cases he
 | .three i j k ri rj rk, true, t, T, h, H, t', H', he => by
   have he : (match ops[i]?, ops[j]?, ops[k]? with
     | some oi, some oj, some ok => sameS (sameS (stepF P call L1 ops (base.map (· + i)) oi t H (fun t' H' => followF P call L L1 ops base H0 true ri t' H') none) (stepF P call L1 ops (base.map (· + j)) oj t H (fun t' H' => followF P call L L1 ops base H0 true rj t' H') none)) (stepF P call L1 ops (base.map (· + k)) ok t H (fun t' H' => followF P call L L1 ops base H0 true rk t' H') none)
     | _, _, _ => none) = some (t', H') := he
   simp only [followA]
   cases hoi : ops[i]? with
   | none => rw [hoi] at he; cases he
   | some oi =>
     cases hoj : ops[j]? with
     | none => rw [hoi, hoj] at he; cases he
     | some oj =>
       cases hok : ops[k]? with
       | none => rw [hoi, hoj, hok] at he; cases he
       | some ok =>
         rw [hoi, hoj, hok] at he
         obtain ⟨g, g3⟩ := sameS_ok he
         obtain ⟨g1, g2⟩ := sameS_ok g
         obtain ⟨T1, H1, t1, a1, a2, a3⟩ := step_inv h g1
         obtain ⟨T2, H2, t2, b1, b2, b3⟩ := step_inv h g2
         obtain ⟨T5, H5, t5, c1, c2, c3⟩ := step_inv h g3
         obtain ⟨T3, a4, a5⟩ := followF_sp P call L L1 ops base H0 ri true a2 H1 a3
         obtain ⟨T4, b4, b5⟩ := followF_sp P call L L1 ops base H0 rj true b2 H2 b3
         obtain ⟨T6, c4, c5⟩ := followF_sp P call L L1 ops base H0 rk true c2 H5 c3
         refine ⟨T3, a4, ?_⟩
         dsimp only
         rw [a1, b1, c1]
         dsimp only
         rw [a5, b5, c5, RT.inj a4 b4, RT.inj b4 c4]
         simp
def listC (l : List Nat) (k : List Nat → α) : α := match l with
 | [] => k []
 | x :: r => nfN x fun x' => listC r fun r' => k (x' :: r')
theorem listC_eq (l : List Nat) (k : List Nat → α) : listC l k = k l := by
 induction l generalizing k with
 | nil => rfl
 | cons x r ih => simp [listC, ih]
def guessF (P : Program) (H : Hp) (k : Tr → α) (l : List Oper) (t : Tr) : α :=
 List.rec (motive := fun _ => Tr → α) (fun t => k t) (fun o _ ih t => pureF P H (evT t) o (fun v => putTr t o.dst v ih) (match o.op with
   | .load ty x => loadF P H (evT t) ty x (fun _ v => putTr t o.dst v ih) (ih t)
   | _ => ih t)) l t
theorem guessF_sp (P : Program) (H : Hp) : ∀ (l : List Oper) {t : Tr} {T : List Value} (h : RT t T), ∃ t', RT t' (guessT P H T l) ∧ ∀ {α : Type} (k : Tr → α), guessF P H k l t = k t'
 | [], t, T, h => ⟨t, h, fun k => rfl⟩
 | o :: r, t, T, h => by
   have e : ∀ {α : Type} (k : Tr → α), guessF P H k (o :: r) t = pureF P H (evT t) o (fun v => putTr t o.dst v fun t' => guessF P H k r t') (match o.op with
     | .load ty x => loadF P H (evT t) ty x (fun _ v => putTr t o.dst v fun t' => guessF P H k r t') (guessF P H k r t)
     | _ => guessF P H k r t) := fun k => rfl
   simp only [e, pureF_eq, loadF_eq, evT_eq h, guessT]
   cases pureA P H (ev T) o with
   | some v =>
     obtain ⟨t1, h1, h2⟩ := putTr_sp h o.dst v
     obtain ⟨t2, h3, h4⟩ := guessF_sp P H r h2
     exact ⟨t2, h3, fun k => (h1 _).trans (h4 k)⟩
   | none =>
     dsimp only [on_none]
     cases o.op with
     | load ty x =>
       dsimp only
       cases loadA P H (ev T) ty x with
       | none => exact guessF_sp P H r h
       | some q =>
         obtain ⟨b, v⟩ := q
         obtain ⟨t1, h1, h2⟩ := putTr_sp h o.dst v
         obtain ⟨t2, h3, h4⟩ := guessF_sp P H r h2
         exact ⟨t2, h3, fun k => (h1 _).trans (h4 k)⟩
     | _ => exact guessF_sp P H r h
def guessWF (e : Operand → Option Value) (ops : Array Oper) : Nat → List Oper → List Nat
 | _, [] => []
 | n, o :: r => (match o.op with
   | .load _ x => blkOf (e x)
   | _ => []) ++ guessWF e ops (n + 1) r
theorem guessWF_eq (T : List Value) (ops : Array Oper) : ∀ (l : List Oper) (n : Nat), guessWF (ev T) ops n l = guessW T ops n l
 | [], n => rfl
 | o :: r, n => by
   simp only [guessWF, guessW, guessWF_eq T ops r (n + 1)]
   rfl
def drawF (P : Program) (call : CallF) (L : Lim) (ops : Array Oper) (t : Tr) (H : Hp) : Option (Tr × Hp) :=
 match planOf ops with
 | some pl => guessF P H (fun t1 => listC (guessWF (evT t1) ops 0 ops.toList) fun W => match pl.forks with
   | true => followF P call L ((H.n, W) :: L) ops (some H.n) (H.keep ops.size) true pl t (H.keep ops.size)
   | false => followF P call L ((H.n, W) :: L) ops none H true pl t H) ops.toList t
 | none => none
theorem drawF_sp (P : Program) (call : CallF) (L : Lim) (ops : Array Oper) {t : Tr} {T : List Value} (h : RT t T) (H : Hp) {t' : Tr} {H' : Hp} (he : drawF P call L ops t H = some (t', H')) :
   ∃ T', RT t' T' ∧ drawA P call L ops T H = some (T', H') := by
 unfold drawF at he
 unfold drawA
 cases hp : planOf ops with
 | none => rw [hp] at he; cases he
 | some pl =>
   rw [hp] at he
   obtain ⟨t1, h1, h2⟩ := guessF_sp P H ops.toList h
   simp only [h2, listC_eq, evT_eq h1, guessWF_eq] at he
   dsimp only
   cases hf : pl.forks with
   | true => rw [hf] at he; rw [if_pos rfl]; exact followF_sp P call L _ ops _ _ pl true h _ he
   | false => rw [hf] at he; rw [if_neg (by simp)]; exact followF_sp P call L _ ops _ _ pl true h _ he
def resF (P : Program) (H : Hp) (t : Tr) (l : List ResultVar) (k : List Value → α) (no : α) : α := match l with
 | [] => k []
 | .tmp i :: r => on (evT t (.tmp i)) (fun v => resF P H t r (fun l => k (v :: l)) no) no
 | .cell x ty :: r => loadF P H (evT t) ty (.tmp x) (fun _ v => resF P H t r (fun l => k (v :: l)) no) no
theorem resF_eq (P : Program) (H : Hp) {t : Tr} {T : List Value} (h : RT t T) (l : List ResultVar) (k : List Value → α) (no : α) : resF P H t l k no = (match resA P H T l with | some r => k r | none => no) := by
 induction l generalizing k with
 | nil => rfl
 | cons x r ih =>
   cases x with
   | tmp i => simp only [resF, resA, evT_eq h, ev, on_some, ih]; cases resA P H T r <;> rfl
   | cell x ty =>
     simp only [resF, resA, loadF_eq, evT_eq h, ih]
     cases loadA P H (ev T) ty (.tmp x) with
     | none => rfl
     | some q => dsimp only [onL]; cases resA P H T r <;> rfl
abbrev RunT := Lim → Code → Tr → Hp → Option (Out × Tr × Hp)
def Same (rf : RunT) (run : Run) : Prop := ∀ L c t T H out t' H', RT t T → rf L c t H = some (out, t', H') → ∃ T', RT t' T' ∧ run L c T H = some (out, T', H')
def callF (P : Program) (run : RunT) : CallF := fun L f vs H =>
 match P.funcs[f]? with
 | some fn => match fn.body with
   | some c => lenC vs 0 fun m => nfN (m + (fn.ntmps - m)) fun n => mkT n vs n 0 1 fun t0 =>
     match run L c t0 H with
     | some (.normal, t, H') => resF P H' t fn.results.toList (fun l => match l with
       | [v] => some (v, H')
       | l => some (.tuple l.toArray, H')) none
     | some (.ret, t, H') => resF P H' t fn.results.toList (fun l => match l with
       | [v] => some (v, H')
       | l => some (.tuple l.toArray, H')) none
     | _ => none
   | none => none
 | none => none
theorem oneOf_match (l : List Value) (H : Hp) : (match l with | [v] => some (v, H) | l => some (.tuple l.toArray, H)) = some (oneOf l, H) := by
 rcases l with _ | ⟨x, _ | ⟨y, r⟩⟩ <;> rfl
theorem callF_sp {P : Program} {rf : RunT} {run : Run} (hs : Same rf run) {L : Lim} {f : FuncId} {vs : List Value} {H : Hp} {q : Value × Hp} (h : callF P rf L f vs H = some q) : callA P run L f vs H = some q := by
 unfold callF at h
 unfold callA
 cases hf : P.funcs[f]? with
 | none => rw [hf] at h; cases h
 | some fn =>
   rw [hf] at h
   dsimp only at h ⊢
   cases hb : fn.body with
   | none => rw [hb] at h; cases h
   | some c =>
     rw [hb] at h
     dsimp only at h ⊢
     obtain ⟨t0, h1, h2⟩ := mkT_spec (vs.length + (fn.ntmps - vs.length)) vs (vs.length + (fn.ntmps - vs.length)) 0 1 (by omega) (by omega)
     simp only [lenC_eq, nfN_eq, Nat.zero_add, h1] at h
     have h3 : RT t0 (vs ++ List.replicate (fn.ntmps - vs.length) undef) := fun i => by
       rw [h2, Nat.zero_add, Nat.one_mul]
       by_cases hi : i < vs.length
       · rw [if_pos (by omega), List.getElem?_append_left hi]; simp [List.getD, hi]
       · rw [List.getElem?_append_right (by omega), List.getElem?_replicate]
         by_cases hi2 : i < vs.length + (fn.ntmps - vs.length)
         · rw [if_pos hi2, if_pos (by omega)]; simp [List.getD, List.getElem?_eq_none (by omega : vs.length ≤ i)]
         · rw [if_neg hi2, if_neg (by omega)]
     split at h
     · rename_i t H' hr
       obtain ⟨T', h4, h5⟩ := hs _ _ _ _ _ _ _ _ h3 hr
       rw [h5]
       simp only [resF_eq P H' h4, oneOf_match] at h
       exact h
     · rename_i t H' hr
       obtain ⟨T', h4, h5⟩ := hs _ _ _ _ _ _ _ _ h3 hr
       rw [h5]
       simp only [resF_eq P H' h4, oneOf_match] at h
       exact h
     · cases h
def codeF (P : Program) (ext : CallF) (run : RunT) : RunT := fun L c t H =>
 match c with
 | .skip => some (.normal, t, H)
 | .label _ => some (.normal, t, H)
 | .exit id => some (.exit id, t, H)
 | .ret => some (.ret, t, H)
 | .region _ ops draw => match draw with
   | true => match drawF P (alt ext (callF P run)) L ops t H with
     | some (t', H') => some (.normal, t', H')
     | none => none
   | false => opsF P (alt ext (callF P run)) L ops (fun t' H' => some (.normal, t', H')) none ops.toList t H
 | .seq x y => match run L x t H with
   | some (.normal, t', H') => run L y t' H'
   | r => r
 | .cond b x y => match evT t b with
   | some (.bool true) => run L x t H
   | some (.bool false) => run L y t H
   | _ => none
 | .block id x => match run L x t H with
   | some (.exit id', t', H') => if id' = id then some (.normal, t', H') else some (.exit id', t', H')
   | r => r
 | .loop x => match run L x t H with
   | some (.normal, t', H') => run L (.loop x) t' H'
   | r => r
 | _ => none
def CallLe (c1 c2 : CallF) : Prop := ∀ L f vs H q, c1 L f vs H = some q → c2 L f vs H = some q
section
variable {P : Program} {c1 c2 : CallF}
theorem stepA_mono (hc : CallLe c1 c2) {L : Lim} {ops : Array Oper} {tgt : Option Nat} {o : Oper} {T : List Value} {H : Hp} {q : List Value × Hp} (h : stepA P c1 L ops tgt o T H = some q) : stepA P c2 L ops tgt o T H = some q := by
 rw [stepA_eq] at h ⊢
 split
 · rename_i hw
   rw [if_pos hw] at h
   unfold stepVA at h ⊢
   cases hop : opA P L H (ev T) tgt o with
   | val v H' => rw [hop] at h; exact h
   | no => rw [hop] at h; exact h
   | call f vs =>
     rw [hop] at h
     dsimp only at h ⊢
     cases hf : P.funcs[f]? with
     | none => rw [hf] at h; exact h
     | some fn =>
       rw [hf] at h
       dsimp only at h ⊢
       by_cases hi : fn.name ≠ "runtime.NumGoroutine" ∧ fn.body.isSome = true
       · rw [if_pos hi] at h ⊢
         cases hq : c1 L f vs H with
         | none => rw [hq] at h; cases h
         | some r => rw [hq] at h; rw [hc _ _ _ _ _ hq]; exact h
       · rw [if_neg hi] at h; cases h
 · rename_i hw
   rw [if_neg hw] at h
   exact h
theorem opsA_mono (hc : CallLe c1 c2) {L : Lim} {ops : Array Oper} : ∀ {l : List Oper} {T : List Value} {H : Hp} {q : List Value × Hp}, opsA P c1 L ops l T H = some q → opsA P c2 L ops l T H = some q
 | [], T, H, q, h => h
 | o :: r, T, H, q, h => by
   simp only [opsA] at h ⊢
   cases hs : stepA P c1 L ops none o T H with
   | none => rw [hs] at h; cases h
   | some x => rw [hs] at h; rw [stepA_mono hc hs]; exact opsA_mono hc h
theorem followA_mono (hc : CallLe c1 c2) {L L1 : Lim} {ops : Array Oper} {base : Option Nat} {H0 : Hp} : ∀ {pl : Pl} {m : Bool} {T : List Value} {H : Hp} {q : List Value × Hp}, followA P c1 L L1 ops base H0 m pl T H = some q → followA P c2 L L1 ops base H0 m pl T H = some q
 | .done, m, T, H, q, h => h
 | .take i r, m, T, H, q, h => by
   simp only [followA] at h ⊢
   cases ho : ops[i]? with
   | none => rw [ho] at h; cases h
   | some o =>
     rw [ho] at h
     dsimp only at h ⊢
     cases hv : takeV P L1 m H0 H T ops o with
     | none => rw [hv] at h; cases h
     | some v => rw [hv] at h; exact followA_mono hc h
 | .one i r, m, T, H, q, h => by
   simp only [followA] at h ⊢
   cases ho : ops[i]? with
   | none => rw [ho] at h; cases h
   | some o =>
     rw [ho] at h
     dsimp only at h ⊢
     split at h
     · rename_i hm
       cases hs : stepA P c1 L1 ops (base.map (· + i)) o T H with
       | none => rw [hs] at h; cases h
       | some x => rw [hs] at h; rw [stepA_mono hc hs]; exact followA_mono hc h
     · rename_i hm hn
       cases hs : stepA P c1 L ops (base.map (· + i)) o T H with
       | none => rw [hs] at h; cases h
       | some x => rw [hs] at h; rw [stepA_mono hc hs]; exact followA_mono hc h
     · cases h
 | .two i j ri rj, m, T, H, q, h => by
   simp only [followA] at h ⊢
   split at h
   · rename_i oi oj hoi hoj
     cases m with
     | false => cases h
     | true =>
       dsimp only at h ⊢
       split at h
       · rename_i T1 H1 T2 H2 hs1 hs2
         rw [stepA_mono hc hs1, stepA_mono hc hs2]
         dsimp only
         split at h
         · rename_i s1 s2 hf1 hf2
           rw [followA_mono hc hf1, followA_mono hc hf2]
           exact h
         · cases h
       · cases h
   · cases h
 | .three i j k ri rj rk, m, T, H, q, h => by
   simp only [followA] at h ⊢
   split at h
   · rename_i oi oj ok hoi hoj hok
     cases m with
     | false => cases h
     | true =>
       dsimp only at h ⊢
       split at h
       · rename_i T1 H1 T2 H2 T3 H3 hs1 hs2 hs3
         rw [stepA_mono hc hs1, stepA_mono hc hs2, stepA_mono hc hs3]
         dsimp only
         split at h
         · rename_i s1 s2 s3 hf1 hf2 hf3
           rw [followA_mono hc hf1, followA_mono hc hf2, followA_mono hc hf3]
           exact h
         · cases h
       · cases h
   · cases h
theorem drawA_mono (hc : CallLe c1 c2) {L : Lim} {ops : Array Oper} {T : List Value} {H : Hp} {q : List Value × Hp} (h : drawA P c1 L ops T H = some q) : drawA P c2 L ops T H = some q := by
 unfold drawA at h ⊢
 cases hp : planOf ops with
 | none => rw [hp] at h; cases h
 | some pl =>
   rw [hp] at h
   dsimp only at h ⊢
   split
   · rename_i hf; rw [if_pos hf] at h; exact followA_mono hc h
   · rename_i hf; rw [if_neg hf] at h; exact followA_mono hc h
theorem codeF_sp {ext : CallF} {rf : RunT} {run : Run} (hs : Same rf run) : Same (codeF P ext rf) (codeA P ext run) := by
 have hc : CallLe (alt ext (callF P rf)) (alt ext (callA P run)) := fun L f vs H q h => by
   unfold alt at h ⊢
   cases he : ext L f vs H with
   | some r => rw [he] at h; exact h
   | none => rw [he] at h; exact callF_sp hs h
 intro L c t T H out t' H' hT h
 cases c with
 | skip => injection h with h; injection h with e1 e2; injection e2 with e2 e3; subst e1 e2 e3; exact ⟨T, hT, rfl⟩
 | label l => injection h with h; injection h with e1 e2; injection e2 with e2 e3; subst e1 e2 e3; exact ⟨T, hT, rfl⟩
 | exit id => injection h with h; injection h with e1 e2; injection e2 with e2 e3; subst e1 e2 e3; exact ⟨T, hT, rfl⟩
 | ret => injection h with h; injection h with e1 e2; injection e2 with e2 e3; subst e1 e2 e3; exact ⟨T, hT, rfl⟩
 | region id ops draw =>
   cases draw with
   | true =>
     have h1 : (match drawF P (alt ext (callF P rf)) L ops t H with
       | some (t', H') => some (Out.normal, t', H')
       | none => none) = some (out, t', H') := h
     cases hq : drawF P (alt ext (callF P rf)) L ops t H with
     | none => rw [hq] at h1; cases h1
     | some x =>
       obtain ⟨t1, H1⟩ := x
       rw [hq] at h1
       injection h1 with h1; injection h1 with e1 e2; injection e2 with e2 e3; subst e1 e2 e3
       obtain ⟨T1, h3, h4⟩ := drawF_sp P (alt ext (callF P rf)) L ops hT H hq
       refine ⟨T1, h3, ?_⟩
       show (match (if true = true then drawA P (alt ext (callA P run)) L ops T H else _) with | some (T', H') => some (Out.normal, T', H') | none => none) = _
       rw [if_pos rfl, drawA_mono hc h4]
   | false =>
     have h1 : opsF P (alt ext (callF P rf)) L ops (fun t' H' => some (Out.normal, t', H')) none ops.toList t H = some (out, t', H') := h
     have h2 := opsF_sp P (alt ext (callF P rf)) L ops ops.toList hT H
     unfold Agree at h2
     cases hq : opsA P (alt ext (callF P rf)) L ops ops.toList T H with
     | none =>
       rw [hq] at h2
       have h5 := (h2 (fun t' H' => some (Out.normal, t', H')) none).symm.trans h1
       cases h5
     | some x =>
       obtain ⟨T1, H1⟩ := x
       rw [hq] at h2
       obtain ⟨t1, h3, h4⟩ := h2
       have h5 := (h4 (fun t' H' => some (Out.normal, t', H')) none).symm.trans h1
       injection h5 with h1; injection h1 with e1 e2; injection e2 with e2 e3; subst e1 e2 e3
       refine ⟨T1, h3, ?_⟩
       show (match (if false = true then _ else opsA P (alt ext (callA P run)) L ops ops.toList T H) with | some (T', H') => some (Out.normal, T', H') | none => none) = _
       rw [if_neg (by simp), opsA_mono hc hq]
 | seq x y =>
   simp only [codeF] at h
   simp only [codeA]
   split at h
   · rename_i t1 H1 hr
     obtain ⟨T1, h1, h2⟩ := hs _ _ _ _ _ _ _ _ hT hr
     rw [h2]
     exact hs _ _ _ _ _ _ _ _ h1 h
   · rename_i r hne
     obtain ⟨T1, h1, h2⟩ := hs _ _ _ _ _ _ _ _ hT h
     refine ⟨T1, h1, ?_⟩
     rw [h2]
     cases out with
     | normal => exact (hne t' H' h).elim
     | _ => rfl
 | cond b x y =>
   simp only [codeF, evT_eq hT] at h
   simp only [codeA]
   split at h
   · rename_i hb
     rw [hb]
     exact hs _ _ _ _ _ _ _ _ hT h
   · rename_i hb
     rw [hb]
     exact hs _ _ _ _ _ _ _ _ hT h
   · cases h
 | block id x =>
   simp only [codeF] at h
   simp only [codeA]
   split at h
   · rename_i id' t1 H1 hr
     obtain ⟨T1, h1, h2⟩ := hs _ _ _ _ _ _ _ _ hT hr
     rw [h2]
     dsimp only
     split at h
     · rename_i hid
       rw [if_pos hid]
       injection h with h; injection h with e1 e2; injection e2 with e2 e3; subst e1 e2 e3; exact ⟨T1, h1, rfl⟩
     · rename_i hid
       rw [if_neg hid]
       injection h with h; injection h with e1 e2; injection e2 with e2 e3; subst e1 e2 e3; exact ⟨T1, h1, rfl⟩
   · rename_i r hne
     obtain ⟨T1, h1, h2⟩ := hs _ _ _ _ _ _ _ _ hT h
     refine ⟨T1, h1, ?_⟩
     rw [h2]
     cases out with
     | exit id' => exact (hne id' t' H' h).elim
     | _ => rfl
 | loop x =>
   simp only [codeF] at h
   simp only [codeA]
   split at h
   · rename_i t1 H1 hr
     obtain ⟨T1, h1, h2⟩ := hs _ _ _ _ _ _ _ _ hT hr
     rw [h2]
     exact hs _ _ _ _ _ _ _ _ h1 h
   · rename_i r hne
     obtain ⟨T1, h1, h2⟩ := hs _ _ _ _ _ _ _ _ hT h
     refine ⟨T1, h1, ?_⟩
     rw [h2]
     cases out with
     | normal => exact (hne t' H' h).elim
     | _ => rfl
 | rangeFunc f params assign body => cases h
 | scope b => cases h
 | goto l => cases h
 | refuse why => cases h
end
def runF (P : Program) (ext : CallF) (n : Nat) : RunT := Nat.rec (fun _ _ _ _ => none) (fun _ ih => codeF P ext ih) n
theorem runF_sp (P : Program) (ext : CallF) (n : Nat) : Same (runF P ext n) (runA P ext n) := by
 induction n with
 | zero => intro L c t T H out t' H' hT h; cases h
 | succ n ih => exact codeF_sp ih
theorem calls_of_runF {P : Program} {ext : CallF} (hm : P.follows .mixedOrders = true) (hext : CallOK P ext) (n : Nat) {L : Lim} {f : FuncId} {vs : List Value} {H H' : Hp} {v : Value} {p : Nat → Pla} {w : World} {args : Array Value}
   (he : callF P (runF P ext n) L f vs H = some (v, H')) (h : Rel p H w) (hv : VL H.al p vs args.toList) :
   Calls P f args w (fun e w' => ∃ v' p', e = .returned v' ∧ Stp L p H w p' H' w' ∧ VR H'.al p' v v') :=
 calls_of_run hm hext n (callF_sp (runF_sp P ext n) he) h hv
end
end Go.Proofs.YtdipnhghdajplaaGreatDoor
