/- The reckoner's operations that leave the heap alone and don't look into it. -/
import Derived.Test.YtigbldheclnmeaaGreatDoorEa
namespace Go.Proofs.YtigbldheclnmeaaGreatDoor
open Go.RowKit
set_option linter.unusedSimpArgs false
set_option linter.unusedVariables false

/-- What a text of the model yields that looks at the program alone. -/
def runP {α : Type} (P : Program) : Sem α → Option α
  | .pure a => some a
  | .program k => runP P (k P)
  | .mark _ k => runP P k
  | _ => none
theorem runP_ok {α : Type} {P : Program} {s : Sem α} {v : α} (h : runP P s = some v) (w : World) : s.run P w = .ok v w := by
  induction s with
  | pure a => simp [runP] at h; subst h; rfl
  | program k ih => simp only [runP] at h; simp only [Sem.run]; exact ih P h
  | mark m k ih => simp only [runP] at h; simp only [Sem.run]; exact ih h
  | _ => simp [runP] at h
def ev (T : List Value) : Operand → Option Value
  | .tmp t => some (T.getD t undef)
  | .const v => if sc v then some v else none
  | .func f => some (.func (.func f) #[] #[])
  | .global _ => none
section
variable {A : Nat → Prop} {p : Nat → Pla} {T : List Value} {a : Act} {x : Operand} {v : Value}
theorem ev_ok (h : TR A p T a.tmps) (hx : ev T x = some v) : VR A p v (a.eval x) := by
  cases x with
  | tmp t =>
    simp only [ev, Option.some.injEq] at hx
    subst hx
    simp only [Act.eval]
    cases ht : T[t]? with
    | none =>
      have hl : T.length ≤ t := by simpa using ht
      have h2 : a.tmps.size ≤ t := by have := h.1; simp at this; omega
      simp [List.getD, ht, Array.getD, h2]
      rw [dif_neg (by omega)]
      exact VR.undef
    | some u =>
      obtain ⟨u', h1, h2⟩ := h.2 t u ht
      simp at h1
      obtain ⟨hlt, rfl⟩ := Array.getElem?_eq_some_iff.1 h1
      simpa [List.getD, ht, Array.getD, hlt] using h2
  | const c =>
    simp only [ev] at hx
    split at hx
    · rename_i hs
      injection hx with hx; subst hx
      exact VR.of_sc hs
    · cases hx
  | func f => simp only [ev, Option.some.injEq] at hx; subst hx; exact .fn f
  | global g => cases hx
theorem ev_sc (h : TR A p T a.tmps) (hx : ev T x = some v) (hs : sc v = true) : a.eval x = v := (ev_ok h hx).sc_eq hs
end
def isAggA (P : Program) (t : TypeId) : Option Bool :=
  match P.underlying t with
  | some (.struct _) => some true
  | some (.array _ _) => some true
  | some _ => some false
  | none => none
def szA (P : Program) (t : TypeId) : Option Nat := (P.info? t).map (·.size)
theorem run_isAgg {P : Program} {t : TypeId} {b : Bool} (h : isAggA P t = some b) (w : World) : (isAgg t).run P w = .ok b w := by
  unfold isAggA at h
  unfold isAgg
  cases hu : P.underlying t with
  | none => rw [hu] at h; cases h
  | some d =>
    rw [hu] at h
    rw [Sem.run_bind, run_underlying hu w]
    cases d <;> simp_all
theorem run_sizeOf {P : Program} {t : TypeId} {n : Nat} (h : szA P t = some n) (w : World) : (sizeOf t).run P w = .ok n w := by
  unfold szA at h
  cases hi : P.info? t with
  | none => rw [hi] at h; cases h
  | some i => rw [hi] at h; simp at h; simp [sizeOf, typeInfo, hi, h]
/-- A part of a struct's or an array's cells. -/
def partA (P : Program) (t : TypeId) (cs : List Value) (off : Nat) : Option Value :=
  match isAggA P t with
  | some true => match szA P t with
    | some n => some (.agg ((cs.drop off).take n).toArray)
    | none => none
  | some false => cs[off]?
  | none => none
section
variable {P : Program} {A : Nat → Prop} {p : Nat → Pla} {T : List Value} {a : Act} {v : Value}
theorem part_ok {t : TypeId} {cs : List Value} {cs' : Array Value} {off : Nat} (hc : VL A p cs cs'.toList) (h : partA P t cs off = some v) :
    ∃ v', VR A p v v' ∧ ∀ w, (part t cs' off).run P w = .ok v' w := by
  unfold partA at h
  split at h
  · rename_i hg
    split at h
    · rename_i n hn
      injection h with h; subst h
      refine ⟨.agg (cs'.extract off (off + n)), ?_, fun w => ?_⟩
      · have e : cs'.extract off (off + n) = ((cs'.toList.drop off).take n).toArray := by
          apply Array.toList_inj.1
          simp [Array.toList_extract, List.extract_eq_take_drop]
        rw [e]
        exact ((hc.drop off).take n).agg
      · simp [part, run_isAgg hg, run_sizeOf hn]
    · cases h
  · rename_i hg
    obtain ⟨v', h1, h2⟩ := hc.2 off v h
    refine ⟨v', h2, fun w => ?_⟩
    simp at h1
    simp [part, run_isAgg hg, h1]
  · cases h
/-- A list of parts, reckoned. -/
def evs (e : Operand → Option Value) : List (Nat × Operand) → Option (List (Nat × Value))
  | [] => some []
  | (i, x) :: r => match e x, evs e r with
    | some v, some l => some ((i, v) :: l)
    | _, _ => none
/-- Parts that stand for parts. -/
def PL (A : Nat → Prop) (p : Nat → Pla) : List (Nat × Value) → List (Nat × Value) → Prop
  | [], [] => True
  | (i, v) :: r, (i', v') :: r' => i = i' ∧ VR A p v v' ∧ PL A p r r'
  | _, _ => False
theorem evs_ok (h : TR A p T a.tmps) : ∀ {l : List (Nat × Operand)} {r : List (Nat × Value)}, evs (ev T) l = some r → PL A p r (l.map fun x => (x.1, a.eval x.2))
  | [], r, he => by simp [evs] at he; subst he; trivial
  | (i, x) :: l, r, he => by
    simp only [evs] at he
    split at he
    · rename_i v m h1 h2
      injection he with he; subst he
      exact ⟨rfl, ev_ok h h1, evs_ok h h2⟩
    · cases he
theorem foldl_set_ok : ∀ {l l' : List Value} {k off : Nat} {xs ys : Array Value}, VL A p l l' → VL A p xs.toList ys.toList →
    VL A p ((l.zipIdx k).foldl (fun cs (c : Value × Nat) => cs.setIfInBounds (off + c.2) c.1) xs).toList ((l'.zipIdx k).foldl (fun cs (c : Value × Nat) => cs.setIfInBounds (off + c.2) c.1) ys).toList
  | [], [], k, off, xs, ys, _, h => h
  | [], _ :: _, _, _, _, _, h, _ => by have := h.1; simp at this
  | _ :: _, [], _, _, _, _, h, _ => by have := h.1; simp at this
  | c :: l, c' :: l', k, off, xs, ys, hl, h => by
    obtain ⟨u, h1, h2⟩ := hl.2 0 c rfl
    simp at h1; subst h1
    simp only [List.zipIdx_cons, List.foldl_cons]
    exact foldl_set_ok (hl.drop 1) (by simp only [Array.toList_setIfInBounds]; exact h.set h2 _)
theorem foldl_arr (off : Nat) (c xs : Array Value) : c.zipIdx.foldl (fun cs (x : Value × Nat) => cs.setIfInBounds (off + x.2) x.1) xs = c.toList.zipIdx.foldl (fun cs (x : Value × Nat) => cs.setIfInBounds (off + x.2) x.1) xs := by
  rw [← Array.foldl_toList, Array.toList_zipIdx]
theorem fill_ok {place : Nat → Option (Nat × Nat)} : ∀ {l l' : List (Nat × Value)} {xs ys cs : Array Value}, PL A p l l' → VL A p xs.toList ys.toList → Instr.fill place xs l = some cs →
    ∃ cs', Instr.fill place ys l' = some cs' ∧ VL A p cs.toList cs'.toList
  | [], [], xs, ys, cs, _, h, he => by simp [Instr.fill] at he; subst he; exact ⟨ys, rfl, h⟩
  | [], _ :: _, _, _, _, h, _, _ => h.elim
  | _ :: _, [], _, _, _, h, _, _ => h.elim
  | (i, v) :: l, (i', v') :: l', xs, ys, cs, hl, h, he => by
    obtain ⟨rfl, hv, hr⟩ := hl
    have hc := hv.cells
    have hs : v'.cells.size = v.cells.size := by have := hc.1; simpa using this.symm
    have hy : ys.size = xs.size := by have := h.1; simpa using this.symm
    simp only [Instr.fill] at he ⊢
    cases hp : place i with
    | none => rw [hp] at he; cases he
    | some q =>
      obtain ⟨off, size⟩ := q
      rw [hp] at he
      simp only at he ⊢
      rw [hs, hy]
      split at he
      · cases he
      · rename_i hn
        rw [if_neg hn]
        refine fill_ok hr ?_ he
        rw [foldl_arr, foldl_arr]
        exact foldl_set_ok (k := 0) (off := off) hc h
end
end Go.Proofs.YtigbldheclnmeaaGreatDoor
