/- The reckoner's blocks, regions and functions once more, each step reckoned out before it is handed on. -/
import Derived.Test.YtigbldheclnmeaaGreatDoorEp
namespace Go.Proofs.YtigbldheclnmeaaGreatDoor
open Go.RowKit
set_option linter.unusedSimpArgs false
set_option linter.unusedVariables false

noncomputable section
variable {α : Type}
/-- A heap whose newest block, or one block, is reckoned out. -/
def Hp.addF (H : Hp) (tgt : Option Nat) (e : Ent) (k : Nat → Hp → α) (no : α) : α :=
  match tgt with
  | none => nfN (H.n + 1) fun n' => k H.n ⟨n', e :: H.l⟩
  | some i => if i < H.n then (match H.ent i with
    | .fresh => H.putF i e (k i)
    | _ => no) else no
def onA (x : Option (Nat × Hp)) (k : Nat → Hp → α) (no : α) : α := match x with
  | some (i, H) => k i H
  | none => no
theorem Hp.addF_eq (H : Hp) (tgt : Option Nat) (e : Ent) (k : Nat → Hp → α) (no : α) : H.addF tgt e k no = onA (H.add tgt e) k no := by
  unfold Hp.addF Hp.add
  cases tgt with
  | none => simp only [nfN_eq]; rfl
  | some i =>
    simp only []
    by_cases hi : i < H.n
    · rw [if_pos hi, if_pos hi]
      cases H.ent i with
      | fresh => simp only [Hp.putF_eq]; rfl
      | _ => rfl
    · rw [if_neg hi, if_neg hi]; rfl
def boxF (H : Hp) (tgt : Option Nat) (ty : TypeId) (cs : List Value) (k : Value → Hp → α) (no : α) : α :=
  takeC cs cs.length fun cs' => H.addF tgt (.live ⟨cs', ty, 0, true⟩) (fun i H' => k (.pointer (some ⟨i, 0, none⟩)) H') no
theorem boxF_eq (H : Hp) (tgt : Option Nat) (ty : TypeId) (cs : List Value) (k : Value → Hp → α) (no : α) : boxF H tgt ty cs k no = on2 (boxA H tgt ty cs) k no := by
  unfold boxF boxA
  rw [takeC_eq, List.take_of_length_le (Nat.le_refl _), Hp.addF_eq]
  cases H.add tgt (.live ⟨cs, ty, 0, true⟩) with
  | none => rfl
  | some q => rfl
def rowF (H : Hp) (tgt : Option Nat) (ty : TypeId) (esz n : Nat) (cs : List Value) (k : Value → Hp → α) (no : α) : α :=
  if cs.length = n * esz ∧ n ≤ maxLen then takeC cs cs.length fun cs' => nfN n fun n => H.addF tgt (.live ⟨cs', ty, esz, true⟩) (fun i H' => k (.slice (some ⟨i, 0, none⟩) n n) H') no else no
theorem rowF_eq (H : Hp) (tgt : Option Nat) (ty : TypeId) (esz n : Nat) (cs : List Value) (k : Value → Hp → α) (no : α) : rowF H tgt ty esz n cs k no = on2 (rowA H tgt ty esz n cs) k no := by
  unfold rowF rowA
  rw [takeC_eq, List.take_of_length_le (Nat.le_refl _), nfN_eq, Hp.addF_eq]
  split
  · cases H.add tgt (.live ⟨cs, ty, esz, true⟩) with
    | none => rfl
    | some q => rfl
  · rfl
def newF (P : Program) (H : Hp) (e : Operand → Option Value) (tgt : Option Nat) (o : Oper) (k : Value → Hp → α) (no : α) : α :=
  match o.op with
  | .alloc elem => match runP P (zeroValue elem) with
    | some z => if z.cells.toList.all sc then boxF H tgt elem z.cells.toList k no else no
    | none => no
  | .box elem x => evF e x (fun v => boxF H tgt elem v.cells.toList k no) no
  | .buildSlice t len parts => match P.underlying t with
    | some (.slice elem) => evsF e parts.toList (fun l => match szA P elem with
      | some n => match runP P (zeroValue elem) with
        | some z =>
          if len * n ≤ 2 ^ 24 ∧ ((Array.range (len * n)).map (z.cells[· % z.cells.size]!)).toList.all sc then
            (match Instr.fill (fun i => some (i * n, n)) ((Array.range (len * n)).map (z.cells[· % z.cells.size]!)) l with
            | some cs => rowF H tgt elem n len cs.toList k no
            | none => no) else no
        | none => no
      | none => no) no
    | _ => no
  | _ => on2 (newA P H e tgt o) (fun v H' => nfW v fun v' => k v' H') no
theorem newF_eq (P : Program) (H : Hp) (e : Operand → Option Value) (tgt : Option Nat) (o : Oper) (k : Value → Hp → α) (no : α) : newF P H e tgt o k no = on2 (newA P H e tgt o) k no := by
  unfold newF
  split
  · rename_i elem ho
    simp only [newA, ho, boxF_eq]
    cases runP P (zeroValue elem) with
    | none => rfl
    | some z => simp only []; split <;> rfl
  · rename_i elem x ho
    simp only [newA, ho, boxF_eq, evF_eq]
    cases e x <;> rfl
  · rename_i t len parts ho
    simp only [newA, ho, rowF_eq, evsF_eq]
    cases P.underlying t with
    | none => rfl
    | some d =>
      cases d with
      | slice elem =>
        cases evs e parts.toList with
        | none => rfl
        | some l =>
          simp only []
          cases szA P elem with
          | none => rfl
          | some n =>
            cases runP P (zeroValue elem) with
            | none => rfl
            | some z =>
              simp only []
              split
              · generalize Instr.fill _ _ _ = q
                cases q <;> rfl
              · rfl
      | _ => cases evs e parts.toList <;> rfl
  · congr 1; funext v H'; rw [nfW_eq]
def appendF (P : Program) (L : Lim) (H : Hp) (e : Operand → Option Value) (tgt : Option Nat) (ats : Array TypeId) (args : Array Operand) (k : Value → Hp → α) (no : α) : α :=
  match appendA P L H e tgt ats args with
  | some (v, H') => nfW v fun v' => match H'.l with
    | .live b :: r => takeC b.cs b.cs.length fun cs => takeC r r.length fun r' => nfN H'.n fun n => k v' ⟨n, .live ⟨cs, b.ty, b.esz, b.own⟩ :: r'⟩
    | l => k v' ⟨H'.n, l⟩
  | none => no
theorem appendF_eq (P : Program) (L : Lim) (H : Hp) (e : Operand → Option Value) (tgt : Option Nat) (ats : Array TypeId) (args : Array Operand) (k : Value → Hp → α) (no : α) : appendF P L H e tgt ats args k no = on2 (appendA P L H e tgt ats args) k no := by
  unfold appendF
  cases appendA P L H e tgt ats args with
  | none => rfl
  | some q =>
    obtain ⟨v, n, l⟩ := q
    simp only [nfW_eq, on2_some, takeC_eq, nfN_eq]
    split
    · rw [List.take_of_length_le (Nat.le_refl _), List.take_of_length_le (Nat.le_refl _)]
    · rfl
/-- What an operation that is wanted yields, and the heap behind it. -/
def stepVA (P : Program) (call : CallF) (L : Lim) (tgt : Option Nat) (o : Oper) (e : Operand → Option Value) (H : Hp) : Option (Value × Hp) :=
  match opA P L H e tgt o with
  | .val v H' => some (v, H')
  | .call f vs => match P.funcs[f]? with
    | some fn => if fn.name ≠ "runtime.NumGoroutine" ∧ fn.body.isSome then call L f vs H else none
    | none => none
  | .no => none
theorem stepA_eq (P : Program) (call : CallF) (L : Lim) (ops : Array Oper) (tgt : Option Nat) (o : Oper) (T : List Value) (H : Hp) :
    stepA P call L ops tgt o T H = if Region.wanted o (yielded ops T.toArray) then (match stepVA P call L tgt o (ev T) H with | some (v, H') => some (putT T o.dst v, H') | none => none) else some (putT T o.dst undef, H) := by
  unfold stepA stepVA
  split
  · cases opA P L H (ev T) tgt o with
    | val v H' => rfl
    | no => rfl
    | call f vs =>
      dsimp only
      cases P.funcs[f]? with
      | none => rfl
      | some fn => dsimp only; split <;> rfl
  · rfl
def stepV (P : Program) (call : CallF) (L : Lim) (tgt : Option Nat) (o : Oper) (e : Operand → Option Value) (H : Hp) (k : Value → Hp → α) (no : α) : α :=
    pureF P H e o (fun v => k v H) (match o.op with
      | .load t x => loadF P H e t x (fun _ v => k v H) no
      | .store t x y => storeF P L H e t x y (fun H' => k undef H') no
      | .call { callee := .builtin .append, args, argTypes } => appendF P L H e tgt argTypes args k no
      | .call { callee := .value f, args, .. } => evF e f (fun g => match g with
        | .func (.func g) fst cap => evlF e args.toList (fun vs => match P.funcs[g]? with
          | some fn => if fn.name ≠ "runtime.NumGoroutine" ∧ fn.body.isSome then (appC vs cap.toList fun q => appC fst.toList q fun q2 => on2 (call L g q2 H) k no) else no
          | none => no) no
        | _ => no) no
      | _ => newF P H e tgt o k no)
theorem stepV_eq (P : Program) (call : CallF) (L : Lim) (tgt : Option Nat) (o : Oper) (e : Operand → Option Value) (H : Hp) (k : Value → Hp → α) (no : α) : stepV P call L tgt o e H k no = on2 (stepVA P call L tgt o e H) k no := by
  unfold stepV stepVA
  simp only [pureF_eq, loadF_eq, storeF_eq, appendF_eq, evF_eq, evlF_eq, newF_eq]
  unfold opA
  cases pureA P H e o with
  | some v => rfl
  | none =>
    simp only [on_none]
    cases hop : o.op with
    | load t x =>
      dsimp only
      cases loadA P H e t x with
      | none => rfl
      | some q => rfl
    | store t x y =>
      dsimp only
      cases storeA P L H e t x y <;> rfl
    | call c =>
      obtain ⟨callee, args, ats⟩ := c
      cases callee with
      | builtin b =>
        cases b with
        | append =>
          dsimp only
          cases appendA P L H e tgt ats args with
          | none => rfl
          | some q => rfl
        | _ =>
          dsimp only
          cases newA P H e tgt o with
          | none => rfl
          | some q => rfl
      | invoke r m =>
        dsimp only
        cases newA P H e tgt o with
        | none => rfl
        | some q => rfl
      | value f =>
        dsimp only
        cases e f with
        | none => rfl
        | some g =>
          dsimp only [on_some]
          cases g with
          | func fn fst cap =>
            cases fn with
            | func g =>
              dsimp only
              cases evl e args.toList with
              | none => rfl
              | some vs =>
                dsimp only
                cases P.funcs[g]? with
                | none => rfl
                | some fn =>
                  simp only [appC_eq, List.append_assoc]
                  split <;> rfl
            | _ => rfl
          | _ => rfl
    | _ =>
      dsimp only
      cases newA P H e tgt o with
      | none => rfl
      | some q => rfl
/-- What stands in a frame's slots. -/
def evT (t : Tr) : Operand → Option Value
  | .tmp i => getT t i some (some undef)
  | .const v => if sc v then some v else none
  | .func f => some (.func (.func f) #[] #[])
  | .global _ => none
theorem evT_eq {t : Tr} {T : List Value} (h : RT t T) : evT t = ev T := by
  funext x
  cases x with
  | tmp i =>
    simp only [evT, ev, getT_eq, ← h i, List.getD]
    cases T[i]? <;> rfl
  | _ => rfl
def wantT (ops : Array Oper) (t : Tr) (o : Oper) : Bool :=
  match o.guard with
  | none => true
  | some (j, want) => match (ops[j]?).bind (·.dst) with
    | some d => getT t d (fun v => match v with | .bool b => b == want | _ => false) false
    | none => false
theorem wantT_eq {t : Tr} {T : List Value} (h : RT t T) (ops : Array Oper) (o : Oper) : wantT ops t o = Region.wanted o (yielded ops T.toArray) := by
  unfold wantT Region.wanted
  cases o.guard with
  | none => rfl
  | some g =>
    obtain ⟨j, want⟩ := g
    dsimp only
    unfold yielded
    cases (ops[j]?).bind (·.dst) with
    | none => rfl
    | some d =>
      simp only [getT_eq, ← h d, Option.bind_some, List.getElem?_toArray]
      cases T[d]? with
      | none => rfl
      | some v =>
        cases v with
        | bool b => cases b <;> cases want <;> rfl
        | _ => rfl
def putTr (t : Tr) (dst : Option Tmp) (v : Value) (k : Tr → α) : α := match dst with
  | some d => setT t d v k
  | none => k t
theorem putTr_sp {t : Tr} {T : List Value} (h : RT t T) (dst : Option Tmp) (v : Value) : ∃ t', (∀ {α : Type} (k : Tr → α), putTr t dst v k = k t') ∧ RT t' (putT T dst v) := by
  cases dst with
  | none => exact ⟨t, fun k => rfl, h⟩
  | some d => exact h.set d v
/-- Where a step goes on. -/
abbrev K2 (α : Type) := Tr → Hp → α
/-- A step of the one kind is a step of the other. -/
def Agree (x : Option (List Value × Hp)) (f : {α : Type} → K2 α → α → α) : Prop :=
  match x with
  | none => ∀ {α : Type} (k : K2 α) (no : α), f k no = no
  | some (T', H') => ∃ t', RT t' T' ∧ ∀ {α : Type} (k : K2 α) (no : α), f k no = k t' H'
def stepF (P : Program) (call : CallF) (L : Lim) (ops : Array Oper) (tgt : Option Nat) (o : Oper) (t : Tr) (H : Hp) (k : K2 α) (no : α) : α :=
  match wantT ops t o with
  | true => stepV P call L tgt o (evT t) H (fun v H' => putTr t o.dst v fun t' => k t' H') no
  | false => putTr t o.dst undef fun t' => k t' H
theorem stepF_sp (P : Program) (call : CallF) (L : Lim) (ops : Array Oper) (tgt : Option Nat) (o : Oper) {t : Tr} {T : List Value} (h : RT t T) (H : Hp) :
    Agree (stepA P call L ops tgt o T H) (fun k no => stepF P call L ops tgt o t H k no) := by
  rw [stepA_eq, ← wantT_eq h]
  unfold Agree stepF
  cases wantT ops t o with
  | true =>
    simp only [if_true, stepV_eq, evT_eq h]
    cases stepVA P call L tgt o (ev T) H with
    | none => exact fun k no => rfl
    | some q =>
      obtain ⟨v, H'⟩ := q
      obtain ⟨t', h1, h2⟩ := putTr_sp h o.dst v
      exact ⟨t', h2, fun k no => h1 _⟩
  | false =>
    simp only [Bool.false_eq_true, if_false]
    obtain ⟨t', h1, h2⟩ := putTr_sp h o.dst undef
    exact ⟨t', h2, fun k no => h1 _⟩
end
end Go.Proofs.YtigbldheclnmeaaGreatDoor
