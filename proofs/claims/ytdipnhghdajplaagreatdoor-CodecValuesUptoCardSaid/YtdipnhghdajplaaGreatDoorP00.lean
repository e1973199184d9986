/- A reckoner's values, its heap, and what it has to do with a world; nothing of the program. The reckoner's operations that leave the heap alone and don't look into it. -/
import Derived.WalkKit
import Derived.Laws.CopyRow
import Derived.Laws.OwnMore
import Derived.Maps.AppendAt
import Derived.Deep.AppendLies
import Derived.OrdersHeld
import Derived.Below
namespace Go.Proofs.YtdipnhghdajplaaGreatDoor
open Go.RowKit
set_option linter.unusedSimpArgs false
set_option linter.unusedVariables false

/-- Where a block of the reckoner lies: the block, the cell of its first, the cells of an element, the cells in all. -/
structure Pla where
  blk : Nat
  off : Nat
  esz : Nat
  tot : Nat
/-- A reckoner's value and the value that it stands for. -/
inductive VR (A : Nat → Prop) (p : Nat → Pla) : Value → Value → Prop
  | bool (b : Bool) : VR A p (.bool b) (.bool b)
  | int (k : IntKind) (x : Int) : VR A p (.int k x) (.int k x)
  | str (s : ByteArray) : VR A p (.string s) (.string s)
  | pnil : VR A p (.pointer none) (.pointer none)
  | ptr (b o : Nat) (h : A b) : VR A p (.pointer (some ⟨b, o, none⟩)) (.pointer (some ⟨(p b).blk, (p b).off + o, none⟩))
  | snil : VR A p (.slice none 0 0) (.slice none 0 0)
  | slc (b o l c c' : Nat) (h : A b) (hc : c ≤ c') (ht : (p b).off + o + c' * (p b).esz = (p b).tot) :
      VR A p (.slice (some ⟨b, o, none⟩) l c) (.slice (some ⟨(p b).blk, (p b).off + o, none⟩) l c')
  | szero (b o b' o' : Nat) (h : A b) : VR A p (.slice (some ⟨b, o, none⟩) 0 0) (.slice (some ⟨b', o', none⟩) 0 0)
  | sfor (b o : Nat) (a' : Option Addr) (c' : Nat) (h : A b) (hf : (p b).esz = 0) : VR A p (.slice (some ⟨b, o, none⟩) 0 0) (.slice a' 0 c')
  | inil : VR A p .nilIface .nilIface
  | fnil : VR A p .nilFunc .nilFunc
  | fn (f : FuncId) : VR A p (.func (.func f) #[] #[]) (.func (.func f) #[] #[])
  | clo (f : FuncId) (xs ys us vs : Array Value) (hl : xs.size = ys.size) (h : ∀ (i : Nat) (h1 : i < xs.size) (h2 : i < ys.size), VR A p xs[i] ys[i]) (kl : us.size = vs.size) (k : ∀ (i : Nat) (h1 : i < us.size) (h2 : i < vs.size), VR A p us[i] vs[i]) :
      VR A p (.func (.func f) xs us) (.func (.func f) ys vs)
  | iface (t : TypeId) (v v' : Value) (h : VR A p v v') : VR A p (.iface t v) (.iface t v')
  | agg (xs ys : Array Value) (hl : xs.size = ys.size) (h : ∀ (i : Nat) (h1 : i < xs.size) (h2 : i < ys.size), VR A p xs[i] ys[i]) : VR A p (.agg xs) (.agg ys)
  | tup (xs ys : Array Value) (hl : xs.size = ys.size) (h : ∀ (i : Nat) (h1 : i < xs.size) (h2 : i < ys.size), VR A p xs[i] ys[i]) : VR A p (.tuple xs) (.tuple ys)
theorem VR.mono {A A' : Nat → Prop} {p p' : Nat → Pla} (h : ∀ b, A b → A' b ∧ p' b = p b) {v v' : Value} (k : VR A p v v') : VR A' p' v v' := by
  induction k with
  | bool b => exact .bool b
  | int k x => exact .int k x
  | str s => exact .str s
  | pnil => exact .pnil
  | ptr b o hb => have := h b hb; rw [← this.2]; exact .ptr b o this.1
  | snil => exact .snil
  | slc b o l c c' hb hc ht => have := h b hb; rw [← this.2] at ht ⊢; exact .slc b o l c c' this.1 hc ht
  | sfor b o a' c' hb hf => exact .sfor b o a' c' (h b hb).1 (by rw [(h b hb).2]; exact hf)
  | szero b o b' o' hb => exact .szero b o b' o' (h b hb).1
  | inil => exact .inil
  | fnil => exact .fnil
  | fn f => exact .fn f
  | clo f xs ys us vs hl _ kl _ ih ih2 => exact .clo f xs ys us vs hl ih kl ih2
  | iface t v v' _ ih => exact .iface t v v' ih
  | agg xs ys hl _ ih => exact .agg xs ys hl ih
  | tup xs ys hl _ ih => exact .tup xs ys hl ih
/-- Values that hold no address. -/
def sc : Value → Bool
  | .bool _ | .int _ _ | .string _ | .pointer none | .slice none 0 0 | .nilIface | .nilFunc => true
  | _ => false
section
variable {A : Nat → Prop} {p : Nat → Pla} {v v' : Value}
theorem VR.sc_eq (h : VR A p v v') (hs : sc v = true) : v' = v := by
  cases h <;> first | rfl | (simp [sc] at hs)
theorem VR.of_sc (hs : sc v = true) : VR A p v v := by
  unfold sc at hs
  split at hs
  · exact .bool _
  · exact .int _ _
  · exact .str _
  · exact .pnil
  · exact .snil
  · exact .inil
  · exact .fnil
  · cases hs
theorem VR.undef : VR A p undef undef := .tup #[] #[] rfl (fun i h1 => absurd h1 (by simp))
theorem VR.one (h : VR A p v v') : v'.oneCell' = v.oneCell' := by cases h <;> rfl
end
/-- Rows of values, pairwise. -/
def VL (A : Nat → Prop) (p : Nat → Pla) (xs ys : List Value) : Prop := xs.length = ys.length ∧ ∀ (i : Nat) (v : Value), xs[i]? = some v → ∃ v', ys[i]? = some v' ∧ VR A p v v'
section
variable {A : Nat → Prop} {p : Nat → Pla} {xs ys xs' ys' : List Value} {v v' : Value}
theorem VL.nil : VL A p [] [] := ⟨rfl, fun i v h => by simp at h⟩
theorem VL.cons (h : VR A p v v') (k : VL A p xs ys) : VL A p (v :: xs) (v' :: ys) := by
  refine ⟨by simp [k.1], fun i u hu => ?_⟩
  cases i with
  | zero => simp at hu; subst hu; exact ⟨v', rfl, h⟩
  | succ i => simp at hu; simpa using k.2 i u hu
theorem VL.append (h : VL A p xs ys) (k : VL A p xs' ys') : VL A p (xs ++ xs') (ys ++ ys') := by
  refine ⟨by simp [h.1, k.1], fun i u hu => ?_⟩
  rcases Nat.lt_or_ge i xs.length with hi | hi
  · rw [List.getElem?_append_left hi] at hu
    rw [List.getElem?_append_left (by rw [← h.1]; exact hi)]
    exact h.2 i u hu
  · rw [List.getElem?_append_right hi] at hu
    rw [List.getElem?_append_right (by rw [← h.1]; exact hi), ← h.1]
    exact k.2 _ u hu
theorem VL.drop (h : VL A p xs ys) (n : Nat) : VL A p (xs.drop n) (ys.drop n) := by
  refine ⟨by simp [h.1], fun i u hu => ?_⟩
  simp only [List.getElem?_drop] at hu ⊢
  exact h.2 _ u hu
theorem VL.take (h : VL A p xs ys) (n : Nat) : VL A p (xs.take n) (ys.take n) := by
  refine ⟨by simp [h.1], fun i u hu => ?_⟩
  simp only [List.getElem?_take] at hu ⊢
  split at hu
  · rename_i hi; rw [if_pos hi]; exact h.2 i u hu
  · cases hu
theorem VL.set (h : VL A p xs ys) (k : VR A p v v') (j : Nat) : VL A p (xs.set j v) (ys.set j v') := by
  refine ⟨by simp [h.1], fun i u hu => ?_⟩
  simp only [List.getElem?_set] at hu ⊢
  by_cases hj : j = i
  · subst hj
    simp only [if_true] at hu ⊢
    split at hu
    · rename_i hl
      rw [if_pos (by rw [← h.1]; exact hl)]
      simp at hu; subst hu
      exact ⟨v', rfl, k⟩
    · cases hu
  · rw [if_neg hj] at hu ⊢
    exact h.2 i u hu
theorem VL.mono {A' : Nat → Prop} {p' : Nat → Pla} (h : ∀ b, A b → A' b ∧ p' b = p b) (k : VL A p xs ys) : VL A' p' xs ys :=
  ⟨k.1, fun i u hu => let ⟨v', h1, h2⟩ := k.2 i u hu; ⟨v', h1, h2.mono h⟩⟩
theorem VL.agg (h : VL A p xs ys) : VR A p (.agg xs.toArray) (.agg ys.toArray) := by
  refine .agg _ _ (by simp [h.1]) fun i h1 h2 => ?_
  simp at h1 h2
  obtain ⟨v', h3, h4⟩ := h.2 i xs[i] (by simp [h1])
  rw [List.getElem?_eq_getElem h2] at h3
  injection h3 with h3; subst h3
  simpa using h4
theorem VL.tup (h : VL A p xs ys) : VR A p (.tuple xs.toArray) (.tuple ys.toArray) := by
  refine .tup _ _ (by simp [h.1]) fun i h1 h2 => ?_
  simp at h1 h2
  obtain ⟨v', h3, h4⟩ := h.2 i xs[i] (by simp [h1])
  rw [List.getElem?_eq_getElem h2] at h3
  injection h3 with h3; subst h3
  simpa using h4
theorem VL.of_arr {xs ys : Array Value} (hl : xs.size = ys.size) (h : ∀ (i : Nat) (h1 : i < xs.size) (h2 : i < ys.size), VR A p xs[i] ys[i]) : VL A p xs.toList ys.toList := by
  refine ⟨by simpa using hl, fun i u hu => ?_⟩
  obtain ⟨h1, rfl⟩ := List.getElem?_eq_some_iff.1 hu
  simp at h1
  exact ⟨ys[i], by simp [hl ▸ h1], h i h1 (hl ▸ h1)⟩
theorem VL.one (h : VL A p xs ys) (k : xs.all (·.oneCell') = true) : ∀ u ∈ ys, u.oneCell' = true := by
  intro u hu
  obtain ⟨i, hi, rfl⟩ := List.getElem_of_mem hu
  have hx : i < xs.length := by rw [h.1]; exact hi
  obtain ⟨v', h1, h2⟩ := h.2 i xs[i] (by simp [hx])
  rw [List.getElem?_eq_getElem hi] at h1
  injection h1 with h1; subst h1
  rw [h2.one]
  exact List.all_eq_true.1 k _ (List.getElem_mem _)
theorem VL.of_sc (h : xs.all sc = true) : VL A p xs xs :=
  ⟨rfl, fun i u hu => ⟨u, hu, VR.of_sc (List.all_eq_true.1 h _ (List.mem_of_getElem? hu))⟩⟩
theorem VR.cells (h : VR A p v v') : VL A p v.cells.toList v'.cells.toList := by
  cases h with
  | agg xs ys hl h => exact VL.of_arr hl h
  | tup xs ys hl h => exact VL.cons (.tup xs ys hl h) VL.nil
  | bool b => exact VL.cons (.bool b) VL.nil
  | int k x => exact VL.cons (.int k x) VL.nil
  | str s => exact VL.cons (.str s) VL.nil
  | pnil => exact VL.cons .pnil VL.nil
  | ptr b o h => exact VL.cons (.ptr b o h) VL.nil
  | snil => exact VL.cons .snil VL.nil
  | slc b o l c c' h hc ht => exact VL.cons (.slc b o l c c' h hc ht) VL.nil
  | sfor b o a' c' h hf => exact VL.cons (.sfor b o a' c' h hf) VL.nil
  | szero b o b' o' h => exact VL.cons (.szero b o b' o' h) VL.nil
  | inil => exact VL.cons .inil VL.nil
  | fnil => exact VL.cons .fnil VL.nil
  | fn f => exact VL.cons (.fn f) VL.nil
  | clo f xs ys us vs hl h kl k => exact VL.cons (.clo f xs ys us vs hl h kl k) VL.nil
  | iface t v v' h => exact VL.cons (.iface t v v' h) VL.nil
end
/-- A block: its cells, its elements' type, the cells of one, may it be written. -/
structure Blk where
  cs : List Value
  ty : TypeId
  esz : Nat
  own : Bool
inductive Ent where
  | fresh
  | dead
  | live (b : Blk)
/-- The reckoner's heap, the newest block first. -/
structure Hp where
  n : Nat
  l : List Ent
namespace Hp
def ent (H : Hp) (i : Nat) : Ent := if i < H.n then H.l.getD (H.n - 1 - i) .fresh else .fresh
def get (H : Hp) (i : Nat) : Option Blk := match H.ent i with | .live b => some b | _ => none
/-- The block i has been made. -/
def al (H : Hp) (i : Nat) : Prop := H.ent i ≠ .fresh
def push (H : Hp) (e : Ent) : Hp := ⟨H.n + 1, e :: H.l⟩
def put (H : Hp) (i : Nat) (e : Ent) : Hp := ⟨H.n, H.l.set (H.n - 1 - i) e⟩
variable {H : Hp} {i j : Nat} {e : Ent}
theorem ent_push : (H.push e).ent i = if i = H.n then e else H.ent i := by
  unfold ent push
  simp only
  by_cases h : i = H.n
  · subst h; simp
  · rw [if_neg h]
    by_cases h2 : i < H.n
    · rw [if_pos (by omega), if_pos h2, show H.n + 1 - 1 - i = (H.n - 1 - i) + 1 by omega]; simp
    · rw [if_neg (by omega), if_neg h2]
theorem ent_put (hl : H.l.length = H.n) (hi : i < H.n) : (H.put i e).ent j = if j = i then e else H.ent j := by
  unfold ent put
  simp only
  by_cases h : j = i
  · subst h; rw [if_pos hi, if_pos rfl, List.getD, List.getElem?_set_self (by omega)]; rfl
  · rw [if_neg h]
    by_cases h2 : j < H.n
    · rw [if_pos h2, if_pos h2]
      have : H.n - 1 - i ≠ H.n - 1 - j := by omega
      simp [List.getD, List.getElem?_set, this]
    · rw [if_neg h2, if_neg h2]
theorem lt_of_ent (h : H.ent i ≠ .fresh) : i < H.n := by
  unfold ent at h
  by_cases hi : i < H.n
  · exact hi
  · rw [if_neg hi] at h; exact absurd rfl h
theorem ent_of_get {b : Blk} (h : H.get i = some b) : H.ent i = .live b := by
  unfold get at h
  split at h
  · rename_i b' e; injection h with h; rw [e, h]
  · cases h
theorem al_of_get {b : Blk} (h : H.get i = some b) : H.al i := by
  unfold al; rw [ent_of_get h]; simp
theorem get_of_ent {b : Blk} (h : H.ent i = .live b) : H.get i = some b := by unfold get; rw [h]
end Hp
/-- The reckoner's heap is what the world holds. -/
structure Rel (p : Nat → Pla) (H : Hp) (w : World) : Prop where
  len : H.l.length = H.n
  cell : ∀ i b, H.get i = some b → ∀ k v, b.cs[k]? = some v → ∃ v', w.cell? ⟨(p i).blk, (p i).off + k, none⟩ = some v' ∧ VR H.al p v v'
  own : ∀ i b, H.get i = some b → b.own = true → ∃ cs', w.heap[(p i).blk]? = some (.cells cs' b.ty (0, 0)) ∧ (p i).off = 0 ∧ cs'.size = (p i).tot ∧ (0 < b.esz → ∃ cap, cap ≤ maxLen ∧ (p i).tot = cap * b.esz)
  esz : ∀ i b, H.get i = some b → (p i).esz = b.esz
  lt : ∀ i b, H.get i = some b → (p i).blk < w.heap.size
  apart : ∀ i j b c, H.get i = some b → H.get j = some c → b.own = true → (p i).blk = (p j).blk → i = j
/-- Which old blocks may be written: from a number on all, ahead of it all but some. -/
abbrev Lim := List (Nat × List Nat)
def Lim.ok (L : Lim) (i : Nat) : Bool := L.all fun x => decide (x.1 ≤ i) || !x.2.contains i
/-- The block may be written. -/
def Wr1 (L : Lim) (H : Hp) (i : Nat) : Prop := ∃ b, H.get i = some b ∧ b.own = true ∧ L.ok i = true
/-- A stretch of a run, as the reckoner has it. -/
structure Stp (L : Lim) (p : Nat → Pla) (H : Hp) (w : World) (p' : Nat → Pla) (H' : Hp) (w' : World) : Prop where
  same : ∀ b, H.al b → H'.al b ∧ p' b = p b
  rel : Rel p' H' w'
  os : w'.os = w.os
  tape : w'.tape = w.tape
  output : w'.output = w.output
  size : w.heap.size ≤ w'.heap.size
  frame : ∀ b, b < w.heap.size → (∀ i, Wr1 L H i → (p i).blk ≠ b) → w'.heap[b]? = w.heap[b]?
  mine : ∀ j c, H'.get j = some c → c.own = true → w.heap.size ≤ (p' j).blk ∨ ∃ i, (i = j ∨ L.ok i = true) ∧ (∃ b, H.get i = some b ∧ b.own = true) ∧ (p i).blk = (p' j).blk
section
variable {L : Lim} {p p' p'' : Nat → Pla} {H H' H'' : Hp} {w w' w'' : World}
theorem Stp.refl (h : Rel p H w) : Stp L p H w p H w := ⟨fun _ h => ⟨h, rfl⟩, h, rfl, rfl, rfl, Nat.le_refl _, fun _ _ _ => rfl, fun j c h ho => .inr ⟨j, .inl rfl, ⟨c, h, ho⟩, rfl⟩⟩
theorem Stp.trans (h : Stp L p H w p' H' w') (k : Stp L p' H' w' p'' H'' w'') : Stp L p H w p'' H'' w'' := by
  refine ⟨fun b hb => ?_, k.rel, k.os.trans h.os, k.tape.trans h.tape, k.output.trans h.output, Nat.le_trans h.size k.size, fun b hb hn => ?_, fun j c hc ho => ?_⟩
  · have h1 := h.same b hb
    have h2 := k.same b h1.1
    exact ⟨h2.1, h2.2.trans h1.2⟩
  · refine (k.frame b (Nat.lt_of_lt_of_le hb h.size) fun i hi e => ?_).trans (h.frame b hb hn)
    obtain ⟨c, hc, ho, hl⟩ := hi
    rcases h.mine i c hc ho with h1 | ⟨i', h0, ⟨b', h1, h1'⟩, h2⟩
    · omega
    · refine hn i' ⟨b', h1, h1', ?_⟩ (h2.trans e)
      rcases h0 with rfl | h0
      · exact hl
      · exact h0
  · rcases k.mine j c hc ho with h1 | ⟨i, h0, ⟨b, h1, h1'⟩, h2⟩
    · exact .inl (Nat.le_trans h.size h1)
    · rcases h.mine i b h1 h1' with h3 | ⟨i', h5, h3, h4⟩
      · exact .inl (h2 ▸ h3)
      · refine .inr ⟨i', ?_, h3, h4.trans h2⟩
        rcases h5 with rfl | h5
        · exact h0
        · exact .inr h5
/-- What a run leaves of the old memory, if nothing old could be written. -/
theorem Stp.old (h : Stp L p H w p' H' w') {B : Nat} (hB : B ≤ w.heap.size) (hn : ∀ i, Wr1 L H i → B ≤ (p i).blk) : Below B w w' :=
  ⟨h.os, h.tape, h.output, h.size, fun b hb => h.frame b (by omega) fun i hi e => by have := hn i hi; omega⟩
end
/-- The frames' values. -/
abbrev TR (A : Nat → Prop) (p : Nat → Pla) (T : List Value) (ts : Array Value) : Prop := VL A p T ts.toList
end Go.Proofs.YtdipnhghdajplaaGreatDoor
namespace Go.Proofs.YtdipnhghdajplaaGreatDoor
open Go.RowKit
set_option linter.unusedSimpArgs false
set_option linter.unusedVariables false

/-- What a text of the model yields that looks at the program alone. -/
def runP {α : Type} (P : Program) : Sem α → Option α
  | .pure a => some a
  | .program k => runP P (k P)
  | .mark _ k => runP P k
  | _ => none
theorem runP_ok {α : Type} {P : Program} {s : Sem α} {v : α} (h : runP P s = some v) (w : World) : s.run P w = .ok v w := by
  induction s with
  | pure a => simp [runP] at h; subst h; rfl
  | program k ih => simp only [runP] at h; simp only [Sem.run]; exact ih P h
  | mark m k ih => simp only [runP] at h; simp only [Sem.run]; exact ih h
  | _ => simp [runP] at h
def ev (T : List Value) : Operand → Option Value
  | .tmp t => some (T.getD t undef)
  | .const v => if sc v then some v else none
  | .func f => some (.func (.func f) #[] #[])
  | .global _ => none
section
variable {A : Nat → Prop} {p : Nat → Pla} {T : List Value} {a : Act} {x : Operand} {v : Value}
theorem ev_ok (h : TR A p T a.tmps) (hx : ev T x = some v) : VR A p v (a.eval x) := by
  cases x with
  | tmp t =>
    simp only [ev, Option.some.injEq] at hx
    subst hx
    simp only [Act.eval]
    cases ht : T[t]? with
    | none =>
      have hl : T.length ≤ t := by simpa using ht
      have h2 : a.tmps.size ≤ t := by have := h.1; simp at this; omega
      simp [List.getD, ht, Array.getD, h2]
      rw [dif_neg (by omega)]
      exact VR.undef
    | some u =>
      obtain ⟨u', h1, h2⟩ := h.2 t u ht
      simp at h1
      obtain ⟨hlt, rfl⟩ := Array.getElem?_eq_some_iff.1 h1
      simpa [List.getD, ht, Array.getD, hlt] using h2
  | const c =>
    simp only [ev] at hx
    split at hx
    · rename_i hs
      injection hx with hx; subst hx
      exact VR.of_sc hs
    · cases hx
  | func f => simp only [ev, Option.some.injEq] at hx; subst hx; exact .fn f
  | global g => cases hx
theorem ev_sc (h : TR A p T a.tmps) (hx : ev T x = some v) (hs : sc v = true) : a.eval x = v := (ev_ok h hx).sc_eq hs
end
def isAggA (P : Program) (t : TypeId) : Option Bool :=
  match P.underlying t with
  | some (.struct _) => some true
  | some (.array _ _) => some true
  | some _ => some false
  | none => none
def szA (P : Program) (t : TypeId) : Option Nat := (P.info? t).map (·.size)
theorem run_isAgg {P : Program} {t : TypeId} {b : Bool} (h : isAggA P t = some b) (w : World) : (isAgg t).run P w = .ok b w := by
  unfold isAggA at h
  unfold isAgg
  cases hu : P.underlying t with
  | none => rw [hu] at h; cases h
  | some d =>
    rw [hu] at h
    rw [Sem.run_bind, run_underlying hu w]
    cases d <;> simp_all
theorem run_sizeOf {P : Program} {t : TypeId} {n : Nat} (h : szA P t = some n) (w : World) : (sizeOf t).run P w = .ok n w := by
  unfold szA at h
  cases hi : P.info? t with
  | none => rw [hi] at h; cases h
  | some i => rw [hi] at h; simp at h; simp [sizeOf, typeInfo, hi, h]
/-- A part of a struct's or an array's cells. -/
def partA (P : Program) (t : TypeId) (cs : List Value) (off : Nat) : Option Value :=
  match isAggA P t with
  | some true => match szA P t with
    | some n => some (.agg ((cs.drop off).take n).toArray)
    | none => none
  | some false => cs[off]?
  | none => none
section
variable {P : Program} {A : Nat → Prop} {p : Nat → Pla} {T : List Value} {a : Act} {v : Value}
theorem part_ok {t : TypeId} {cs : List Value} {cs' : Array Value} {off : Nat} (hc : VL A p cs cs'.toList) (h : partA P t cs off = some v) :
    ∃ v', VR A p v v' ∧ ∀ w, (part t cs' off).run P w = .ok v' w := by
  unfold partA at h
  split at h
  · rename_i hg
    split at h
    · rename_i n hn
      injection h with h; subst h
      refine ⟨.agg (cs'.extract off (off + n)), ?_, fun w => ?_⟩
      · have e : cs'.extract off (off + n) = ((cs'.toList.drop off).take n).toArray := by
          apply Array.toList_inj.1
          simp [Array.toList_extract, List.extract_eq_take_drop]
        rw [e]
        exact ((hc.drop off).take n).agg
      · simp [part, run_isAgg hg, run_sizeOf hn]
    · cases h
  · rename_i hg
    obtain ⟨v', h1, h2⟩ := hc.2 off v h
    refine ⟨v', h2, fun w => ?_⟩
    simp at h1
    simp [part, run_isAgg hg, h1]
  · cases h
/-- A list of parts, reckoned. -/
def evs (e : Operand → Option Value) : List (Nat × Operand) → Option (List (Nat × Value))
  | [] => some []
  | (i, x) :: r => match e x, evs e r with
    | some v, some l => some ((i, v) :: l)
    | _, _ => none
/-- Parts that stand for parts. -/
def PL (A : Nat → Prop) (p : Nat → Pla) : List (Nat × Value) → List (Nat × Value) → Prop
  | [], [] => True
  | (i, v) :: r, (i', v') :: r' => i = i' ∧ VR A p v v' ∧ PL A p r r'
  | _, _ => False
theorem evs_ok (h : TR A p T a.tmps) : ∀ {l : List (Nat × Operand)} {r : List (Nat × Value)}, evs (ev T) l = some r → PL A p r (l.map fun x => (x.1, a.eval x.2))
  | [], r, he => by simp [evs] at he; subst he; trivial
  | (i, x) :: l, r, he => by
    simp only [evs] at he
    split at he
    · rename_i v m h1 h2
      injection he with he; subst he
      exact ⟨rfl, ev_ok h h1, evs_ok h h2⟩
    · cases he
theorem foldl_set_ok : ∀ {l l' : List Value} {k off : Nat} {xs ys : Array Value}, VL A p l l' → VL A p xs.toList ys.toList →
    VL A p ((l.zipIdx k).foldl (fun cs (c : Value × Nat) => cs.setIfInBounds (off + c.2) c.1) xs).toList ((l'.zipIdx k).foldl (fun cs (c : Value × Nat) => cs.setIfInBounds (off + c.2) c.1) ys).toList
  | [], [], k, off, xs, ys, _, h => h
  | [], _ :: _, _, _, _, _, h, _ => by have := h.1; simp at this
  | _ :: _, [], _, _, _, _, h, _ => by have := h.1; simp at this
  | c :: l, c' :: l', k, off, xs, ys, hl, h => by
    obtain ⟨u, h1, h2⟩ := hl.2 0 c rfl
    simp at h1; subst h1
    simp only [List.zipIdx_cons, List.foldl_cons]
    exact foldl_set_ok (hl.drop 1) (by simp only [Array.toList_setIfInBounds]; exact h.set h2 _)
theorem foldl_arr (off : Nat) (c xs : Array Value) : c.zipIdx.foldl (fun cs (x : Value × Nat) => cs.setIfInBounds (off + x.2) x.1) xs = c.toList.zipIdx.foldl (fun cs (x : Value × Nat) => cs.setIfInBounds (off + x.2) x.1) xs := by
  rw [← Array.foldl_toList, Array.toList_zipIdx]
theorem fill_ok {place : Nat → Option (Nat × Nat)} : ∀ {l l' : List (Nat × Value)} {xs ys cs : Array Value}, PL A p l l' → VL A p xs.toList ys.toList → Instr.fill place xs l = some cs →
    ∃ cs', Instr.fill place ys l' = some cs' ∧ VL A p cs.toList cs'.toList
  | [], [], xs, ys, cs, _, h, he => by simp [Instr.fill] at he; subst he; exact ⟨ys, rfl, h⟩
  | [], _ :: _, _, _, _, h, _, _ => h.elim
  | _ :: _, [], _, _, _, h, _, _ => h.elim
  | (i, v) :: l, (i', v') :: l', xs, ys, cs, hl, h, he => by
    obtain ⟨rfl, hv, hr⟩ := hl
    have hc := hv.cells
    have hs : v'.cells.size = v.cells.size := by have := hc.1; simpa using this.symm
    have hy : ys.size = xs.size := by have := h.1; simpa using this.symm
    simp only [Instr.fill] at he ⊢
    cases hp : place i with
    | none => rw [hp] at he; cases he
    | some q =>
      obtain ⟨off, size⟩ := q
      rw [hp] at he
      simp only at he ⊢
      rw [hs, hy]
      split at he
      · cases he
      · rename_i hn
        rw [if_neg hn]
        refine fill_ok hr ?_ he
        rw [foldl_arr, foldl_arr]
        exact foldl_set_ok (k := 0) (off := off) hc h
end
end Go.Proofs.YtdipnhghdajplaaGreatDoor
