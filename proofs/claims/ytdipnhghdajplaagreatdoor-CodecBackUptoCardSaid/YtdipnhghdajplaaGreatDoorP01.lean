/- A reckoner's values, its heap, and what it has to do with a world; nothing of the program. -/
import Derived.WalkKit
import Derived.Laws.CopyRow
import Derived.Laws.OwnMore
import Derived.Maps.AppendAt
import Derived.Deep.AppendLies
import Derived.OrdersHeld
import Derived.Below
namespace Go.Proofs.YtdipnhghdajplaaGreatDoor
open Go.RowKit
set_option linter.unusedSimpArgs false
set_option linter.unusedVariables false
structure Pla where
 blk : Nat
 off : Nat
 esz : Nat
 tot : Nat
inductive VR (A : Nat → Prop) (p : Nat → Pla) : Value → Value → Prop
 | bool (b : Bool) : VR A p (.bool b) (.bool b)
 | int (k : IntKind) (x : Int) : VR A p (.int k x) (.int k x)
 | str (s : ByteArray) : VR A p (.string s) (.string s)
 | pnil : VR A p (.pointer none) (.pointer none)
 | ptr (b o : Nat) (h : A b) : VR A p (.pointer (some ⟨b, o, none⟩)) (.pointer (some ⟨(p b).blk, (p b).off + o, none⟩))
 | snil : VR A p (.slice none 0 0) (.slice none 0 0)
 | slc (b o l c c' : Nat) (h : A b) (hc : c ≤ c') (ht : (p b).off + o + c' * (p b).esz = (p b).tot) :
     VR A p (.slice (some ⟨b, o, none⟩) l c) (.slice (some ⟨(p b).blk, (p b).off + o, none⟩) l c')
 | szero (b o b' o' : Nat) (h : A b) : VR A p (.slice (some ⟨b, o, none⟩) 0 0) (.slice (some ⟨b', o', none⟩) 0 0)
 | sfor (b o : Nat) (a' : Option Addr) (c' : Nat) (h : A b) (hf : (p b).esz = 0) : VR A p (.slice (some ⟨b, o, none⟩) 0 0) (.slice a' 0 c')
 | inil : VR A p .nilIface .nilIface
 | fnil : VR A p .nilFunc .nilFunc
 | fn (f : FuncId) : VR A p (.func (.func f) #[] #[]) (.func (.func f) #[] #[])
 | clo (f : FuncId) (xs ys us vs : Array Value) (hl : xs.size = ys.size) (h : ∀ (i : Nat) (h1 : i < xs.size) (h2 : i < ys.size), VR A p xs[i] ys[i]) (kl : us.size = vs.size) (k : ∀ (i : Nat) (h1 : i < us.size) (h2 : i < vs.size), VR A p us[i] vs[i]) :
     VR A p (.func (.func f) xs us) (.func (.func f) ys vs)
 | iface (t : TypeId) (v v' : Value) (h : VR A p v v') : VR A p (.iface t v) (.iface t v')
 | agg (xs ys : Array Value) (hl : xs.size = ys.size) (h : ∀ (i : Nat) (h1 : i < xs.size) (h2 : i < ys.size), VR A p xs[i] ys[i]) : VR A p (.agg xs) (.agg ys)
 | tup (xs ys : Array Value) (hl : xs.size = ys.size) (h : ∀ (i : Nat) (h1 : i < xs.size) (h2 : i < ys.size), VR A p xs[i] ys[i]) : VR A p (.tuple xs) (.tuple ys)
theorem VR.mono {A A' : Nat → Prop} {p p' : Nat → Pla} (h : ∀ b, A b → A' b ∧ p' b = p b) {v v' : Value} (k : VR A p v v') : VR A' p' v v' := by
 induction k with
 | bool b => exact .bool b
 | int k x => exact .int k x
 | str s => exact .str s
 | pnil => exact .pnil
 | ptr b o hb => have := h b hb; rw [← this.2]; exact .ptr b o this.1
 | snil => exact .snil
 | slc b o l c c' hb hc ht => have := h b hb; rw [← this.2] at ht ⊢; exact .slc b o l c c' this.1 hc ht
 | sfor b o a' c' hb hf => exact .sfor b o a' c' (h b hb).1 (by rw [(h b hb).2]; exact hf)
 | szero b o b' o' hb => exact .szero b o b' o' (h b hb).1
 | inil => exact .inil
 | fnil => exact .fnil
 | fn f => exact .fn f
 | clo f xs ys us vs hl _ kl _ ih ih2 => exact .clo f xs ys us vs hl ih kl ih2
 | iface t v v' _ ih => exact .iface t v v' ih
 | agg xs ys hl _ ih => exact .agg xs ys hl ih
 | tup xs ys hl _ ih => exact .tup xs ys hl ih
def sc : Value → Bool
 | .bool _ | .int _ _ | .string _ | .pointer none | .slice none 0 0 | .nilIface | .nilFunc => true
 | _ => false
section
variable {A : Nat → Prop} {p : Nat → Pla} {v v' : Value}
theorem VR.sc_eq (h : VR A p v v') (hs : sc v = true) : v' = v := by
 cases h <;> first | rfl | (simp [sc] at hs)
theorem VR.of_sc (hs : sc v = true) : VR A p v v := by
 unfold sc at hs
 split at hs
 · exact .bool _
 · exact .int _ _
 · exact .str _
 · exact .pnil
 · exact .snil
 · exact .inil
 · exact .fnil
 · cases hs
theorem VR.undef : VR A p undef undef := .tup #[] #[] rfl (fun i h1 => absurd h1 (by simp))
theorem VR.one (h : VR A p v v') : v'.oneCell' = v.oneCell' := by cases h <;> rfl
end
def VL (A : Nat → Prop) (p : Nat → Pla) (xs ys : List Value) : Prop := xs.length = ys.length ∧ ∀ (i : Nat) (v : Value), xs[i]? = some v → ∃ v', ys[i]? = some v' ∧ VR A p v v'
section
variable {A : Nat → Prop} {p : Nat → Pla} {xs ys xs' ys' : List Value} {v v' : Value}
theorem VL.nil : VL A p [] [] := ⟨rfl, fun i v h => by simp at h⟩
theorem VL.cons (h : VR A p v v') (k : VL A p xs ys) : VL A p (v :: xs) (v' :: ys) := by
 refine ⟨by simp [k.1], fun i u hu => ?_⟩
 cases i with
 | zero => simp at hu; subst hu; exact ⟨v', rfl, h⟩
 | succ i => simp at hu; simpa using k.2 i u hu
theorem VL.append (h : VL A p xs ys) (k : VL A p xs' ys') : VL A p (xs ++ xs') (ys ++ ys') := by
 refine ⟨by simp [h.1, k.1], fun i u hu => ?_⟩
 rcases Nat.lt_or_ge i xs.length with hi | hi
 · rw [List.getElem?_append_left hi] at hu
   rw [List.getElem?_append_left (by rw [← h.1]; exact hi)]
   exact h.2 i u hu
 · rw [List.getElem?_append_right hi] at hu
   rw [List.getElem?_append_right (by rw [← h.1]; exact hi), ← h.1]
   exact k.2 _ u hu
theorem VL.drop (h : VL A p xs ys) (n : Nat) : VL A p (xs.drop n) (ys.drop n) := by
 refine ⟨by simp [h.1], fun i u hu => ?_⟩
 simp only [List.getElem?_drop] at hu ⊢
 exact h.2 _ u hu
theorem VL.take (h : VL A p xs ys) (n : Nat) : VL A p (xs.take n) (ys.take n) := by
 refine ⟨by simp [h.1], fun i u hu => ?_⟩
 simp only [List.getElem?_take] at hu ⊢
 split at hu
 · rename_i hi; rw [if_pos hi]; exact h.2 i u hu
 · cases hu
theorem VL.set (h : VL A p xs ys) (k : VR A p v v') (j : Nat) : VL A p (xs.set j v) (ys.set j v') := by
 refine ⟨by simp [h.1], fun i u hu => ?_⟩
 simp only [List.getElem?_set] at hu ⊢
 by_cases hj : j = i
 · subst hj
   simp only [if_true] at hu ⊢
   split at hu
   · rename_i hl
     rw [if_pos (by rw [← h.1]; exact hl)]
     simp at hu; subst hu
     exact ⟨v', rfl, k⟩
   · cases hu
 · rw [if_neg hj] at hu ⊢
   exact h.2 i u hu
theorem VL.mono {A' : Nat → Prop} {p' : Nat → Pla} (h : ∀ b, A b → A' b ∧ p' b = p b) (k : VL A p xs ys) : VL A' p' xs ys :=
 ⟨k.1, fun i u hu => let ⟨v', h1, h2⟩ := k.2 i u hu; ⟨v', h1, h2.mono h⟩⟩
theorem VL.agg (h : VL A p xs ys) : VR A p (.agg xs.toArray) (.agg ys.toArray) := by
 refine .agg _ _ (by simp [h.1]) fun i h1 h2 => ?_
 simp at h1 h2
 obtain ⟨v', h3, h4⟩ := h.2 i xs[i] (by simp [h1])
 rw [List.getElem?_eq_getElem h2] at h3
 injection h3 with h3; subst h3
 simpa using h4
theorem VL.tup (h : VL A p xs ys) : VR A p (.tuple xs.toArray) (.tuple ys.toArray) := by
 refine .tup _ _ (by simp [h.1]) fun i h1 h2 => ?_
 simp at h1 h2
 obtain ⟨v', h3, h4⟩ := h.2 i xs[i] (by simp [h1])
 rw [List.getElem?_eq_getElem h2] at h3
 injection h3 with h3; subst h3
 simpa using h4
theorem VL.of_arr {xs ys : Array Value} (hl : xs.size = ys.size) (h : ∀ (i : Nat) (h1 : i < xs.size) (h2 : i < ys.size), VR A p xs[i] ys[i]) : VL A p xs.toList ys.toList := by
 refine ⟨by simpa using hl, fun i u hu => ?_⟩
 obtain ⟨h1, rfl⟩ := List.getElem?_eq_some_iff.1 hu
 simp at h1
 exact ⟨ys[i], by simp [hl ▸ h1], h i h1 (hl ▸ h1)⟩
theorem VL.one (h : VL A p xs ys) (k : xs.all (·.oneCell') = true) : ∀ u ∈ ys, u.oneCell' = true := by
 intro u hu
 obtain ⟨i, hi, rfl⟩ := List.getElem_of_mem hu
 have hx : i < xs.length := by rw [h.1]; exact hi
 obtain ⟨v', h1, h2⟩ := h.2 i xs[i] (by simp [hx])
 rw [List.getElem?_eq_getElem hi] at h1
 injection h1 with h1; subst h1
 rw [h2.one]
 exact List.all_eq_true.1 k _ (List.getElem_mem _)
theorem VL.of_sc (h : xs.all sc = true) : VL A p xs xs :=
 ⟨rfl, fun i u hu => ⟨u, hu, VR.of_sc (List.all_eq_true.1 h _ (List.mem_of_getElem? hu))⟩⟩
theorem VR.cells (h : VR A p v v') : VL A p v.cells.toList v'.cells.toList := by
 cases h with
 | agg xs ys hl h => exact VL.of_arr hl h
 | tup xs ys hl h => exact VL.cons (.tup xs ys hl h) VL.nil
 | bool b => exact VL.cons (.bool b) VL.nil
 | int k x => exact VL.cons (.int k x) VL.nil
 | str s => exact VL.cons (.str s) VL.nil
 | pnil => exact VL.cons .pnil VL.nil
 | ptr b o h => exact VL.cons (.ptr b o h) VL.nil
 | snil => exact VL.cons .snil VL.nil
 | slc b o l c c' h hc ht => exact VL.cons (.slc b o l c c' h hc ht) VL.nil
 | sfor b o a' c' h hf => exact VL.cons (.sfor b o a' c' h hf) VL.nil
 | szero b o b' o' h => exact VL.cons (.szero b o b' o' h) VL.nil
 | inil => exact VL.cons .inil VL.nil
 | fnil => exact VL.cons .fnil VL.nil
 | fn f => exact VL.cons (.fn f) VL.nil
 | clo f xs ys us vs hl h kl k => exact VL.cons (.clo f xs ys us vs hl h kl k) VL.nil
 | iface t v v' h => exact VL.cons (.iface t v v' h) VL.nil
end
structure Blk where
 cs : List Value
 ty : TypeId
 esz : Nat
 own : Bool
inductive Ent where
 | fresh
 | dead
 | live (b : Blk)
structure Hp where
 n : Nat
 l : List Ent
namespace Hp
def ent (H : Hp) (i : Nat) : Ent := if i < H.n then H.l.getD (H.n - 1 - i) .fresh else .fresh
def get (H : Hp) (i : Nat) : Option Blk := match H.ent i with | .live b => some b | _ => none
def al (H : Hp) (i : Nat) : Prop := H.ent i ≠ .fresh
def push (H : Hp) (e : Ent) : Hp := ⟨H.n + 1, e :: H.l⟩
def put (H : Hp) (i : Nat) (e : Ent) : Hp := ⟨H.n, H.l.set (H.n - 1 - i) e⟩
variable {H : Hp} {i j : Nat} {e : Ent}
theorem ent_push : (H.push e).ent i = if i = H.n then e else H.ent i := by
 unfold ent push
 simp only
 by_cases h : i = H.n
 · subst h; simp
 · rw [if_neg h]
   by_cases h2 : i < H.n
   · rw [if_pos (by omega), if_pos h2, show H.n + 1 - 1 - i = (H.n - 1 - i) + 1 by omega]; simp
   · rw [if_neg (by omega), if_neg h2]
theorem ent_put (hl : H.l.length = H.n) (hi : i < H.n) : (H.put i e).ent j = if j = i then e else H.ent j := by
 unfold ent put
 simp only
 by_cases h : j = i
 · subst h; rw [if_pos hi, if_pos rfl, List.getD, List.getElem?_set_self (by omega)]; rfl
 · rw [if_neg h]
   by_cases h2 : j < H.n
   · rw [if_pos h2, if_pos h2]
     have : H.n - 1 - i ≠ H.n - 1 - j := by omega
     simp [List.getD, List.getElem?_set, this]
   · rw [if_neg h2, if_neg h2]
theorem lt_of_ent (h : H.ent i ≠ .fresh) : i < H.n := by
 unfold ent at h
 by_cases hi : i < H.n
 · exact hi
 · rw [if_neg hi] at h; exact absurd rfl h
theorem ent_of_get {b : Blk} (h : H.get i = some b) : H.ent i = .live b := by
 unfold get at h
 split at h
 · rename_i b' e; injection h with h; rw [e, h]
 · cases h
theorem al_of_get {b : Blk} (h : H.get i = some b) : H.al i := by
 unfold al; rw [ent_of_get h]; simp
theorem get_of_ent {b : Blk} (h : H.ent i = .live b) : H.get i = some b := by unfold get; rw [h]
end Hp
structure Rel (p : Nat → Pla) (H : Hp) (w : World) : Prop where
 len : H.l.length = H.n
 cell : ∀ i b, H.get i = some b → ∀ k v, b.cs[k]? = some v → ∃ v', w.cell? ⟨(p i).blk, (p i).off + k, none⟩ = some v' ∧ VR H.al p v v'
 own : ∀ i b, H.get i = some b → b.own = true → ∃ cs', w.heap[(p i).blk]? = some (.cells cs' b.ty (0, 0)) ∧ (p i).off = 0 ∧ cs'.size = (p i).tot ∧ (0 < b.esz → ∃ cap, cap ≤ maxLen ∧ (p i).tot = cap * b.esz)
 esz : ∀ i b, H.get i = some b → (p i).esz = b.esz
 lt : ∀ i b, H.get i = some b → (p i).blk < w.heap.size
 apart : ∀ i j b c, H.get i = some b → H.get j = some c → b.own = true → (p i).blk = (p j).blk → i = j
abbrev Lim := List (Nat × List Nat)
def Lim.ok (L : Lim) (i : Nat) : Bool := L.all fun x => decide (x.1 ≤ i) || !x.2.contains i
def Wr1 (L : Lim) (H : Hp) (i : Nat) : Prop := ∃ b, H.get i = some b ∧ b.own = true ∧ L.ok i = true
structure Stp (L : Lim) (p : Nat → Pla) (H : Hp) (w : World) (p' : Nat → Pla) (H' : Hp) (w' : World) : Prop where
 same : ∀ b, H.al b → H'.al b ∧ p' b = p b
 rel : Rel p' H' w'
 os : w'.os = w.os
 tape : w'.tape = w.tape
 output : w'.output = w.output
 size : w.heap.size ≤ w'.heap.size
 frame : ∀ b, b < w.heap.size → (∀ i, Wr1 L H i → (p i).blk ≠ b) → w'.heap[b]? = w.heap[b]?
 mine : ∀ j c, H'.get j = some c → c.own = true → w.heap.size ≤ (p' j).blk ∨ ∃ i, (i = j ∨ L.ok i = true) ∧ (∃ b, H.get i = some b ∧ b.own = true) ∧ (p i).blk = (p' j).blk
section
variable {L : Lim} {p p' p'' : Nat → Pla} {H H' H'' : Hp} {w w' w'' : World}
theorem Stp.refl (h : Rel p H w) : Stp L p H w p H w := ⟨fun _ h => ⟨h, rfl⟩, h, rfl, rfl, rfl, Nat.le_refl _, fun _ _ _ => rfl, fun j c h ho => .inr ⟨j, .inl rfl, ⟨c, h, ho⟩, rfl⟩⟩
theorem Stp.trans (h : Stp L p H w p' H' w') (k : Stp L p' H' w' p'' H'' w'') : Stp L p H w p'' H'' w'' := by
 refine ⟨fun b hb => ?_, k.rel, k.os.trans h.os, k.tape.trans h.tape, k.output.trans h.output, Nat.le_trans h.size k.size, fun b hb hn => ?_, fun j c hc ho => ?_⟩
 · have h1 := h.same b hb
   have h2 := k.same b h1.1
   exact ⟨h2.1, h2.2.trans h1.2⟩
 · refine (k.frame b (Nat.lt_of_lt_of_le hb h.size) fun i hi e => ?_).trans (h.frame b hb hn)
   obtain ⟨c, hc, ho, hl⟩ := hi
   rcases h.mine i c hc ho with h1 | ⟨i', h0, ⟨b', h1, h1'⟩, h2⟩
   · omega
   · refine hn i' ⟨b', h1, h1', ?_⟩ (h2.trans e)
     rcases h0 with rfl | h0
     · exact hl
     · exact h0
 · rcases k.mine j c hc ho with h1 | ⟨i, h0, ⟨b, h1, h1'⟩, h2⟩
   · exact .inl (Nat.le_trans h.size h1)
   · rcases h.mine i b h1 h1' with h3 | ⟨i', h5, h3, h4⟩
     · exact .inl (h2 ▸ h3)
     · refine .inr ⟨i', ?_, h3, h4.trans h2⟩
       rcases h5 with rfl | h5
       · exact h0
       · exact .inr h5
theorem Stp.old (h : Stp L p H w p' H' w') {B : Nat} (hB : B ≤ w.heap.size) (hn : ∀ i, Wr1 L H i → B ≤ (p i).blk) : Below B w w' :=
 ⟨h.os, h.tape, h.output, h.size, fun b hb => h.frame b (by omega) fun i hi e => by have := hn i hi; omega⟩
end
abbrev TR (A : Nat → Prop) (p : Nat → Pla) (T : List Value) (ts : Array Value) : Prop := VL A p T ts.toList
end Go.Proofs.YtdipnhghdajplaaGreatDoor
namespace Go.Proofs.YtdipnhghdajplaaGreatDoor
open Go.RowKit
set_option linter.unusedSimpArgs false
set_option linter.unusedVariables false
def runP {α : Type} (P : Program) : Sem α → Option α
 | .pure a => some a
 | .program k => runP P (k P)
 | .mark _ k => runP P k
 | _ => none
theorem runP_ok {α : Type} {P : Program} {s : Sem α} {v : α} (h : runP P s = some v) (w : World) : s.run P w = .ok v w := by
 induction s with
 | pure a => simp [runP] at h; subst h; rfl
 | program k ih => simp only [runP] at h; simp only [Sem.run]; exact ih P h
 | mark m k ih => simp only [runP] at h; simp only [Sem.run]; exact ih h
 | _ => simp [runP] at h
def ev (T : List Value) : Operand → Option Value
 | .tmp t => some (T.getD t undef)
 | .const v => if sc v then some v else none
 | .func f => some (.func (.func f) #[] #[])
 | .global _ => none
section
variable {A : Nat → Prop} {p : Nat → Pla} {T : List Value} {a : Act} {x : Operand} {v : Value}
theorem ev_ok (h : TR A p T a.tmps) (hx : ev T x = some v) : VR A p v (a.eval x) := by
 cases x with
 | tmp t =>
   simp only [ev, Option.some.injEq] at hx
   subst hx
   simp only [Act.eval]
   cases ht : T[t]? with
   | none =>
     have hl : T.length ≤ t := by simpa using ht
     have h2 : a.tmps.size ≤ t := by have := h.1; simp at this; omega
     simp [List.getD, ht, Array.getD, h2]
     rw [dif_neg (by omega)]
     exact VR.undef
   | some u =>
     obtain ⟨u', h1, h2⟩ := h.2 t u ht
     simp at h1
     obtain ⟨hlt, rfl⟩ := Array.getElem?_eq_some_iff.1 h1
     simpa [List.getD, ht, Array.getD, hlt] using h2
 | const c =>
   simp only [ev] at hx
   split at hx
   · rename_i hs
     injection hx with hx; subst hx
     exact VR.of_sc hs
   · cases hx
 | func f => simp only [ev, Option.some.injEq] at hx; subst hx; exact .fn f
 | global g => cases hx
theorem ev_sc (h : TR A p T a.tmps) (hx : ev T x = some v) (hs : sc v = true) : a.eval x = v := (ev_ok h hx).sc_eq hs
end
def isAggA (P : Program) (t : TypeId) : Option Bool :=
 match P.underlying t with
 | some (.struct _) => some true
 | some (.array _ _) => some true
 | some _ => some false
 | none => none
def szA (P : Program) (t : TypeId) : Option Nat := (P.info? t).map (·.size)
theorem run_isAgg {P : Program} {t : TypeId} {b : Bool} (h : isAggA P t = some b) (w : World) : (isAgg t).run P w = .ok b w := by
 unfold isAggA at h
 unfold isAgg
 cases hu : P.underlying t with
 | none => rw [hu] at h; cases h
 | some d =>
   rw [hu] at h
   rw [Sem.run_bind, run_underlying hu w]
   cases d <;> simp_all
theorem run_sizeOf {P : Program} {t : TypeId} {n : Nat} (h : szA P t = some n) (w : World) : (sizeOf t).run P w = .ok n w := by
 unfold szA at h
 cases hi : P.info? t with
 | none => rw [hi] at h; cases h
 | some i => rw [hi] at h; simp at h; simp [sizeOf, typeInfo, hi, h]
def partA (P : Program) (t : TypeId) (cs : List Value) (off : Nat) : Option Value :=
 match isAggA P t with
 | some true => match szA P t with
   | some n => some (.agg ((cs.drop off).take n).toArray)
   | none => none
 | some false => cs[off]?
 | none => none
section
variable {P : Program} {A : Nat → Prop} {p : Nat → Pla} {T : List Value} {a : Act} {v : Value}
theorem part_ok {t : TypeId} {cs : List Value} {cs' : Array Value} {off : Nat} (hc : VL A p cs cs'.toList) (h : partA P t cs off = some v) :
   ∃ v', VR A p v v' ∧ ∀ w, (part t cs' off).run P w = .ok v' w := by
 unfold partA at h
 split at h
 · rename_i hg
   split at h
   · rename_i n hn
     injection h with h; subst h
     refine ⟨.agg (cs'.extract off (off + n)), ?_, fun w => ?_⟩
     · have e : cs'.extract off (off + n) = ((cs'.toList.drop off).take n).toArray := by
         apply Array.toList_inj.1
         simp [Array.toList_extract, List.extract_eq_take_drop]
       rw [e]
       exact ((hc.drop off).take n).agg
     · simp [part, run_isAgg hg, run_sizeOf hn]
   · cases h
 · rename_i hg
   obtain ⟨v', h1, h2⟩ := hc.2 off v h
   refine ⟨v', h2, fun w => ?_⟩
   simp at h1
   simp [part, run_isAgg hg, h1]
 · cases h
def evs (e : Operand → Option Value) : List (Nat × Operand) → Option (List (Nat × Value))
 | [] => some []
 | (i, x) :: r => match e x, evs e r with
   | some v, some l => some ((i, v) :: l)
   | _, _ => none
def PL (A : Nat → Prop) (p : Nat → Pla) : List (Nat × Value) → List (Nat × Value) → Prop
 | [], [] => True
 | (i, v) :: r, (i', v') :: r' => i = i' ∧ VR A p v v' ∧ PL A p r r'
 | _, _ => False
theorem evs_ok (h : TR A p T a.tmps) : ∀ {l : List (Nat × Operand)} {r : List (Nat × Value)}, evs (ev T) l = some r → PL A p r (l.map fun x => (x.1, a.eval x.2))
 | [], r, he => by simp [evs] at he; subst he; trivial
 | (i, x) :: l, r, he => by
   simp only [evs] at he
   split at he
   · rename_i v m h1 h2
     injection he with he; subst he
     exact ⟨rfl, ev_ok h h1, evs_ok h h2⟩
   · cases he
theorem foldl_set_ok : ∀ {l l' : List Value} {k off : Nat} {xs ys : Array Value}, VL A p l l' → VL A p xs.toList ys.toList →
   VL A p ((l.zipIdx k).foldl (fun cs (c : Value × Nat) => cs.setIfInBounds (off + c.2) c.1) xs).toList ((l'.zipIdx k).foldl (fun cs (c : Value × Nat) => cs.setIfInBounds (off + c.2) c.1) ys).toList
 | [], [], k, off, xs, ys, _, h => h
 | [], _ :: _, _, _, _, _, h, _ => by have := h.1; simp at this
 | _ :: _, [], _, _, _, _, h, _ => by have := h.1; simp at this
 | c :: l, c' :: l', k, off, xs, ys, hl, h => by
   obtain ⟨u, h1, h2⟩ := hl.2 0 c rfl
   simp at h1; subst h1
   simp only [List.zipIdx_cons, List.foldl_cons]
   exact foldl_set_ok (hl.drop 1) (by simp only [Array.toList_setIfInBounds]; exact h.set h2 _)
theorem foldl_arr (off : Nat) (c xs : Array Value) : c.zipIdx.foldl (fun cs (x : Value × Nat) => cs.setIfInBounds (off + x.2) x.1) xs = c.toList.zipIdx.foldl (fun cs (x : Value × Nat) => cs.setIfInBounds (off + x.2) x.1) xs := by
 rw [← Array.foldl_toList, Array.toList_zipIdx]
theorem fill_ok {place : Nat → Option (Nat × Nat)} : ∀ {l l' : List (Nat × Value)} {xs ys cs : Array Value}, PL A p l l' → VL A p xs.toList ys.toList → Instr.fill place xs l = some cs →
   ∃ cs', Instr.fill place ys l' = some cs' ∧ VL A p cs.toList cs'.toList
 | [], [], xs, ys, cs, _, h, he => by simp [Instr.fill] at he; subst he; exact ⟨ys, rfl, h⟩
 | [], _ :: _, _, _, _, h, _, _ => h.elim
 | _ :: _, [], _, _, _, h, _, _ => h.elim
 | (i, v) :: l, (i', v') :: l', xs, ys, cs, hl, h, he => by
   obtain ⟨rfl, hv, hr⟩ := hl
   have hc := hv.cells
   have hs : v'.cells.size = v.cells.size := by have := hc.1; simpa using this.symm
   have hy : ys.size = xs.size := by have := h.1; simpa using this.symm
   simp only [Instr.fill] at he ⊢
   cases hp : place i with
   | none => rw [hp] at he; cases he
   | some q =>
     obtain ⟨off, size⟩ := q
     rw [hp] at he
     simp only at he ⊢
     rw [hs, hy]
     split at he
     · cases he
     · rename_i hn
       rw [if_neg hn]
       refine fill_ok hr ?_ he
       rw [foldl_arr, foldl_arr]
       exact foldl_set_ok (k := 0) (off := off) hc h
end
end Go.Proofs.YtdipnhghdajplaaGreatDoor
namespace Go.Proofs.YtdipnhghdajplaaGreatDoor
open Go.RowKit
set_option linter.unusedSimpArgs false
set_option linter.unusedVariables false
def runS (P : Program) (s : Sem Value) : Option Value := match runP P s with
 | some v => if sc v then some v else none
 | none => none
def bnd (e : Operand → Option Value) (d : Nat) : Option Operand → Option Nat
 | none => some d
 | some x => match e x with
   | some (.int _ i) => if 0 ≤ i then some i.toNat else none
   | _ => none
def scX : Value → Bool
 | .agg xs => xs.toList.all sc
 | v => sc v
def nilA (P : Program) (H : Hp) (op : BinOp) (xt : TypeId) (vx vy : Value) : Option Value :=
 match P.underlying xt, vx, vy with
 | some (.pointer _), .pointer (some _), .pointer none => nilR op
 | some (.pointer _), .pointer none, .pointer (some _) => nilR op
 | some (.slice _), .slice (some _) (_ + 1) _, .slice none _ _ => nilR op
 | some (.slice _), .slice none _ _, .slice (some _) (_ + 1) _ => nilR op
 | some (.slice _), .slice (some ⟨b, _, _⟩) 0 _, .slice none _ _ => match H.get b with
   | some blk => if 0 < blk.esz then nilR op else none
   | none => none
 | _, _, _ => none
 where nilR (op : BinOp) : Option Value := match op with
 | .eql => some (.bool false)
 | .neq => some (.bool true)
 | _ => none
def binA (P : Program) (H : Hp) (e : Operand → Option Value) (op : BinOp) (xt : TypeId) (x y : Operand) : Option Value :=
 match e x, e y with
 | some vx, some vy => if scX vx && scX vy then runS P (do eqGuard op xt x y vx vy; binOp op xt vx vy) else nilA P H op xt vx vy
 | _, _ => none
def fieldA (P : Program) (e : Operand → Option Value) (xt : TypeId) (x : Operand) (f : Nat) : Option Value :=
 match e x, P.underlying xt with
 | some (.agg cs), some (.struct fs) => match fs[f]? with
   | some fl => partA P fl.type cs.toList fl.offset
   | none => none
 | _, _ => none
def fieldAddrA (P : Program) (e : Operand → Option Value) (s : TypeId) (x : Operand) (f : Nat) : Option Value :=
 match e x, P.underlying s with
 | some (.pointer (some ⟨b, o, none⟩)), some (.struct fs) => match fs[f]? with
   | some fl => match szA P fl.type with
     | some (n + 1) => some (.pointer (some ⟨b, o + fl.offset, none⟩))
     | _ => none
   | none => none
 | _, _ => none
def indexA (P : Program) (e : Operand → Option Value) (xt : TypeId) (x ix : Operand) : Option Value :=
 match e x, e ix with
 | some (.string s), some (.int k i) => runS P (Instr.index xt (.string s) (.int k i))
 | some (.agg cs), some (.int k i) => match P.underlying xt with
   | some (.array len elem) => if 0 ≤ i ∧ i < len then (match szA P elem with
     | some n => partA P elem cs.toList (i.toNat * n)
     | none => none) else none
   | _ => none
 | _, _ => none
def indexAddrA (P : Program) (e : Operand → Option Value) (t : TypeId) (x ix : Operand) : Option Value :=
 match e x, e ix, P.underlying t with
 | some (.slice (some ⟨b, o, none⟩) l _), some (.int k i), some (.slice elem) =>
   if 0 ≤ i ∧ i < l then (match szA P elem with
     | some n => some (.pointer (some ⟨b, o + i.toNat * n, none⟩))
     | none => none) else none
 | some (.pointer (some ⟨b, o, none⟩)), some (.int k i), some (.array len elem) =>
   if 0 ≤ i ∧ i < len then (match szA P elem with
     | some n => some (.pointer (some ⟨b, o + i.toNat * n, none⟩))
     | none => none) else none
 | _, _, _ => none
def sliceA (P : Program) (H : Hp) (e : Operand → Option Value) (t : TypeId) (x : Operand) (lo hi mx : Option Operand) : Option Value :=
 match e x, P.underlying t, mx with
 | some (.string s), some .string, none => match bnd e 0 lo, bnd e s.size hi with
   | some l, some h => if l ≤ h ∧ h ≤ s.size then some (.string (s.extract l h)) else none
   | _, _ => none
 | some (.slice (some ⟨b, o, none⟩) len c), some (.slice elem), none => match bnd e 0 lo, bnd e len hi, szA P elem, H.get b with
   | some l, some h, some n, some blk => if l ≤ h ∧ h ≤ c ∧ len ≤ c ∧ blk.esz = n then some (.slice (some ⟨b, o + l * n, none⟩) (h - l) (c - l)) else none
   | _, _, _, _ => none
 | some (.slice (some ⟨b, o, none⟩) len c), some (.slice elem), some m => match lo, hi, e m, H.get b, szA P elem with
   | none, some h, some (.int _ 0), some _, some _ => match e h with
     | some (.int _ 0) => some (.slice (some ⟨b, o, none⟩) 0 0)
     | _ => none
   | _, _, _, _, _ => none
 | _, _, _ => none
def buildA (P : Program) (e : Operand → Option Value) (t : TypeId) (parts : Array (Nat × Operand)) : Option Value :=
 match runP P (zeroValue t), P.underlying t, evs e parts.toList with
 | some z, some (.struct fs), some l => match runP P (fs.mapM (m := Sem) fun f => do pure (f.offset, ← sizeOf f.type)) with
   | some places => if z.cells.toList.all sc then (Instr.fill (places[·]?) z.cells l).map .agg else none
   | none => none
 | some z, some (.array _ elem), some l => match szA P elem with
   | some n => if z.cells.toList.all sc then (Instr.fill (fun i => some (i * n, n)) z.cells l).map .agg else none
   | none => none
 | _, _, _ => none
def lenA (P : Program) (e : Operand → Option Value) (ats : Array TypeId) (args : Array Operand) : Option Value :=
 match ats[0]?, args[0]? with
 | some t, some x => match e x, P.underlying t with
   | some (.slice _ n _), some (.slice _) => some (goInt n)
   | some (.string s), some .string => some (goInt s.size)
   | _, _ => none
 | _, _ => none
def evl (e : Operand → Option Value) : List Operand → Option (List Value)
 | [] => some []
 | x :: r => match e x, evl e r with
   | some v, some l => some (v :: l)
   | _, _ => none
def plainA (P : Program) (e : Operand → Option Value) (f : Array Value → Sem Value) (args : Array Operand) : Option Value :=
 match evl e args.toList with
 | some vs => if vs.all sc then runS P (f vs.toArray) else none
 | none => none
def flatT : Value → Bool
 | .tuple xs => xs.toList.all sc
 | v => sc v
def extnA (P : Program) (e : Operand → Option Value) (g : FuncId) (args : Array Operand) : Option Value := match P.funcs[g]? with
 | some fn => match fn.body.isSome with
   | true => none
   | false => match evl e args.toList with
     | some vs => if vs.all sc then (match runP P (callFunc g vs.toArray) with
       | some (.value v) => if flatT v then some v else none
       | _ => none) else none
     | none => none
 | none => none
def pureA (P : Program) (H : Hp) (e : Operand → Option Value) (o : Oper) : Option Value :=
 match o.op with
 | .move x => e x
 | .assign x => e x
 | .pick c a b => match e c with
   | some (.bool t) => if t then e a else e b
   | _ => none
 | .binOp op xt x y _ => binA P H e op xt x y
 | .unOp op _ x => match e x with
   | some v => if sc v then runS P (Op.unary op v) else none
   | none => none
 | .convert s d x => match e x with
   | some v => if sc v then runS P (convert s d v) else none
   | none => none
 | .extract t i => match e t with
   | some (.tuple vs) => vs[i]?
   | _ => none
 | .field xt x f => fieldA P e xt x f
 | .fieldAddr s x f => fieldAddrA P e s x f
 | .index xt x ix => indexA P e xt x ix
 | .indexAddr t x ix => indexAddrA P e t x ix
 | .slice t x lo hi mx => sliceA P H e t x lo hi mx
 | .makeFunc (.func f) first captured => match evl e first.toList, evl e captured.toList with
   | some vs, some us => some (.func (.func f) vs.toArray us.toArray)
   | _, _ => none
 | .build t parts => buildA P e t parts
 | .nilCheck x => match e x with
   | some (.pointer (some a)) => some (.pointer (some a))
   | _ => none
 | .call { callee := .builtin .len, args, argTypes } => lenA P e argTypes args
 | .call { callee := .builtin .min, args, argTypes } => plainA P e (Builtin.min_ argTypes o.type) args
 | .call { callee := .builtin .max, args, argTypes } => plainA P e (Builtin.max_ argTypes o.type) args
 | .call { callee := .value (.func g), args, .. } => extnA P e g args
 | _ => none
section
variable {P : Program} {A : Nat → Prop} {p : Nat → Pla} {T : List Value} {a : Act} {v : Value}
theorem addr_add (b o n : Nat) : (⟨b, o, none⟩ : Addr).add n = ⟨b, o + n, none⟩ := by
 unfold Addr.add; by_cases h : n = 0 <;> simp [h]
theorem bnd_ok (h : TR A p T a.tmps) {d n : Nat} {x : Option Operand} (hx : bnd (ev T) d x = some n) : (x = none ∧ n = d) ∨ ∃ y k i, x = some y ∧ a.eval y = .int k i ∧ 0 ≤ i ∧ n = i.toNat := by
 cases x with
 | none => simp [bnd] at hx; exact .inl ⟨rfl, hx.symm⟩
 | some y =>
   simp only [bnd] at hx
   split at hx
   · rename_i k i he
     split at hx
     · rename_i hi
       injection hx with hx
       exact .inr ⟨y, k, i, rfl, ev_sc h he rfl, hi, hx.symm⟩
     · cases hx
   · cases hx
theorem runS_ok {s : Sem Value} (h : runS P s = some v) : VR A p v v ∧ ∀ w, s.run P w = .ok v w := by
 unfold runS at h
 split at h
 · rename_i u hu
   split at h
   · rename_i hs
     injection h with h; subst h
     exact ⟨VR.of_sc hs, fun w => runP_ok hu w⟩
   · cases h
 · cases h
theorem VR.scX_eq {v v' : Value} (h : VR A p v v') (hs : scX v = true) : v' = v := by
 cases h with
 | agg xs ys hl h =>
   have hs : xs.toList.all sc = true := hs
   congr 1
   refine Array.ext hl.symm fun i h1 h2 => ?_
   exact (h i h2 h1).sc_eq (List.all_eq_true.1 hs _ (by simp))
 | _ => first | rfl | (simp [scX, sc] at hs)
theorem nilA_ok {H : Hp} (hz : ∀ i b, H.get i = some b → (p i).esz = b.esz) {op : BinOp} {xt : TypeId} {x y : Operand} {vx vy ux uy : Value} (h1 : VR A p vx ux) (h2 : VR A p vy uy) (he : nilA P H op xt vx vy = some v) :
   ∃ v', VR A p v v' ∧ ∀ w, ((do eqGuard op xt x y ux uy; binOp op xt ux uy) : Sem Value).run P w = .ok v' w := by
 have fin : nilA.nilR op = some v → (∀ w, (Op.equal xt ux uy).run P w = .ok false w) → (∀ w, (eqGuard op xt x y ux uy).run P w = .ok () w) → binOp .eql xt ux uy = (do pure (.bool (← Op.equal xt ux uy))) → binOp .neq xt ux uy = (do pure (.bool (!(← Op.equal xt ux uy)))) →
     ∃ v', VR A p v v' ∧ ∀ w, ((do eqGuard op xt x y ux uy; binOp op xt ux uy) : Sem Value).run P w = .ok v' w := by
   intro hr hq hg b1 b2
   unfold nilA.nilR at hr
   split at hr
   · injection hr with hr; subst hr
     exact ⟨_, .bool false, fun w => by simp [Sem.run_bind, hg, b1, hq]⟩
   · injection hr with hr; subst hr
     exact ⟨_, .bool true, fun w => by simp [Sem.run_bind, hg, b2, hq]⟩
   · cases hr
 unfold nilA at he
 split at he
 · rename_i el a hu
   cases h1 with | ptr b o hb => cases h2 with | pnil => exact fin he (fun w => by unfold Op.equal; rw [show Op.maxDepth = 9999 + 1 from rfl]; unfold Op.equalIn; rw [Sem.run_bind, run_underlying hu w]; rfl) (fun w => by cases op <;> rfl) rfl rfl
 · rename_i el a hu
   cases h1 with | pnil => cases h2 with | ptr b o hb => exact fin he (fun w => by unfold Op.equal; rw [show Op.maxDepth = 9999 + 1 from rfl]; unfold Op.equalIn; rw [Sem.run_bind, run_underlying hu w]; rfl) (fun w => by cases op <;> rfl) rfl rfl
 · rename_i el a l c l' c' hu
   cases h1 with | slc b o l c c' hb hc ht => cases h2 with | snil => exact fin he (fun w => by unfold Op.equal; rw [show Op.maxDepth = 9999 + 1 from rfl]; unfold Op.equalIn; rw [Sem.run_bind, run_underlying hu w]; rfl) (fun w => by cases op <;> rfl) rfl rfl
 · rename_i el l' c' a l c hu
   cases h1 with | snil => cases h2 with | slc b o l c c' hb hc ht => exact fin he (fun w => by unfold Op.equal; rw [show Op.maxDepth = 9999 + 1 from rfl]; unfold Op.equalIn; rw [Sem.run_bind, run_underlying hu w]; rfl) (fun w => by cases op <;> rfl) rfl rfl
 · rename_i el b o sp c l' c' hu
   split at he
   · rename_i blk hg
     split at he
     · rename_i hpos
       have key : ∃ ad cc, ux = .slice (some ad) 0 cc := by
         cases h1 with
         | slc b o l c c' hb hc ht => exact ⟨_, _, rfl⟩
         | szero b o b' o' hb => exact ⟨_, _, rfl⟩
         | sfor b o a' c' hb hf => have := hz _ _ hg; omega
       obtain ⟨ad, cc, rfl⟩ := key
       cases h2 with | snil => exact fin he (fun w => by unfold Op.equal; rw [show Op.maxDepth = 9999 + 1 from rfl]; unfold Op.equalIn; rw [Sem.run_bind, run_underlying hu w]; rfl) (fun w => by cases op <;> rfl) rfl rfl
     · cases he
   · cases he
 · cases he
theorem binA_ok {H : Hp} (hz : ∀ i b, H.get i = some b → (p i).esz = b.esz) (h : TR A p T a.tmps) {op : BinOp} {xt : TypeId} {x y : Operand} (he : binA P H (ev T) op xt x y = some v) :
   ∃ v', VR A p v v' ∧ ∀ w, ((do eqGuard op xt x y (a.eval x) (a.eval y); binOp op xt (a.eval x) (a.eval y)) : Sem Value).run P w = .ok v' w := by
 unfold binA at he
 split at he
 · rename_i vx vy hx hy
   split at he
   · rename_i hs
     simp only [Bool.and_eq_true] at hs
     rw [(ev_ok h hx).scX_eq hs.1, (ev_ok h hy).scX_eq hs.2]
     exact ⟨v, runS_ok he⟩
   · exact nilA_ok hz (ev_ok h hx) (ev_ok h hy) he
 · cases he
theorem fieldA_ok (h : TR A p T a.tmps) {xt : TypeId} {x : Operand} {f : Nat} (he : fieldA P (ev T) xt x f = some v) :
   ∃ v', VR A p v v' ∧ ∀ w, (Instr.field xt (a.eval x) f).run P w = .ok v' w := by
 unfold fieldA at he
 split at he
 · rename_i cs fs hx hu
   split at he
   · rename_i fl hf
     have hv := ev_ok h hx
     generalize a.eval x = u at hv
     cases hv with
     | agg xs ys hl hh =>
       obtain ⟨v', h1, h2⟩ := part_ok (VL.of_arr hl hh) he
       exact ⟨v', h1, fun w => by simp [Instr.field, run_underlying hu, hf, asAgg, h2]⟩
   · cases he
 · cases he
theorem fieldAddrA_ok (h : TR A p T a.tmps) {s : TypeId} {x : Operand} {f : Nat} (he : fieldAddrA P (ev T) s x f = some v) :
   ∃ v', VR A p v v' ∧ ∀ w, (Instr.fieldAt s (a.eval x) f).run P w = .ok v' w := by
 unfold fieldAddrA at he
 split at he
 · rename_i b o fs hx hu
   split at he
   · rename_i fl hf
     split at he
     · rename_i n hn
       injection he with he; subst he
       have hv := ev_ok h hx
       generalize a.eval x = u at hv
       cases hv with
       | ptr b o hb =>
         refine ⟨.pointer (some ⟨(p b).blk, (p b).off + (o + fl.offset), none⟩), .ptr _ _ hb, fun w => ?_⟩
         simp [Instr.fieldAt, run_underlying hu, hf, Instr.sureAddr, fieldPlace, run_sizeOf hn, addr_add, Nat.add_assoc]
     · cases he
   · cases he
 · cases he
theorem indexA_ok (h : TR A p T a.tmps) {xt : TypeId} {x ix : Operand} (he : indexA P (ev T) xt x ix = some v) :
   ∃ v', VR A p v v' ∧ ∀ w, (Instr.index xt (a.eval x) (a.eval ix)).run P w = .ok v' w := by
 unfold indexA at he
 split at he
 · rename_i s k i hx hi
   rw [ev_sc h hx rfl, ev_sc h hi rfl]
   exact ⟨v, runS_ok he⟩
 · rename_i cs k i hx hi
   rw [ev_sc h hi rfl]
   split at he
   · rename_i len elem hu
     split at he
     · rename_i hb
       split at he
       · rename_i n hn
         have hv := ev_ok h hx
         generalize a.eval x = u at hv
         cases hv with
         | agg xs ys hl hh =>
           obtain ⟨v', h1, h2⟩ := part_ok (VL.of_arr hl hh) he
           exact ⟨v', h1, fun w => by simp [Instr.index, asIntOf, run_underlying hu, hb, run_sizeOf hn, h2]⟩
       · cases he
     · cases he
   · cases he
 · cases he
theorem indexAddrA_ok (h : TR A p T a.tmps) {t : TypeId} {x ix : Operand} (he : indexAddrA P (ev T) t x ix = some v) :
   ∃ v', VR A p v v' ∧ ∀ w, (Instr.indexAt t (a.eval x) (a.eval ix)).run P w = .ok v' w := by
 unfold indexAddrA at he
 split at he
 · rename_i b o l c k i elem hx hi hu
   rw [ev_sc h hi rfl]
   split at he
   · rename_i hb
     split at he
     · rename_i n hn
       injection he with he; subst he
       have hv := ev_ok h hx
       generalize a.eval x = u at hv
       cases hv with
       | slc b o l c c' hA hc ht =>
         refine ⟨.pointer (some ⟨(p b).blk, (p b).off + (o + i.toNat * n), none⟩), .ptr _ _ hA, fun w => ?_⟩
         simp [Instr.indexAt, asIntOf, run_underlying hu, hb, run_sizeOf hn, addr_add, Nat.add_assoc]
       | szero b o b' o' hA => simp at hb; omega
       | sfor b o a' c' hA hf => simp at hb; omega
     · cases he
   · cases he
 · rename_i b o k i len elem hx hi hu
   rw [ev_sc h hi rfl]
   split at he
   · rename_i hb
     split at he
     · rename_i n hn
       injection he with he; subst he
       have hv := ev_ok h hx
       generalize a.eval x = u at hv
       cases hv with
       | ptr b o hA =>
         refine ⟨.pointer (some ⟨(p b).blk, (p b).off + (o + i.toNat * n), none⟩), .ptr _ _ hA, fun w => ?_⟩
         simp [Instr.indexAt, asIntOf, run_underlying hu, hb, run_sizeOf hn, addr_add, Nat.add_assoc, Instr.sureAddr]
     · cases he
   · cases he
 · cases he
theorem lenA_ok (h : TR A p T a.tmps) {ats : Array TypeId} {args : Array Operand} {ty : TypeId} (he : lenA P (ev T) ats args = some v) :
   ∃ v', VR A p v v' ∧ ∀ w, (Builtin.len_ ats ty (args.map a.eval)).run P w = .ok v' w := by
 unfold lenA at he
 split at he
 · rename_i t x ht hx0
   split at he
   · rename_i b n c e hx hu
     injection he with he; subst he
     have hv := ev_ok h hx
     refine ⟨_, .int .i64 n, fun w => ?_⟩
     generalize hq : a.eval x = u at hv
     cases hv with
     | slc b o l c c' hA hc ht2 => simp [Builtin.len_, ht, hx0, hq, run_underlying hu, goInt]
     | sfor b o a' c' hA hf => simp [Builtin.len_, ht, hx0, hq, run_underlying hu, goInt]
     | szero b o b' o' hA => simp [Builtin.len_, ht, hx0, hq, run_underlying hu, goInt]
     | snil => simp [Builtin.len_, ht, hx0, hq, run_underlying hu, goInt]
   · rename_i s hx hu
     injection he with he; subst he
     have hq := ev_sc h hx rfl
     exact ⟨_, .int .i64 s.size, fun w => by simp [Builtin.len_, ht, hx0, hq, run_underlying hu, goInt]⟩
   · cases he
 · cases he
theorem buildA_ok (h : TR A p T a.tmps) {t : TypeId} {parts : Array (Nat × Operand)} (he : buildA P (ev T) t parts = some v) :
   ∃ v', VR A p v v' ∧ ∀ w, (Instr.build t (parts.map fun x => (x.1, a.eval x.2))).run P w = .ok v' w := by
 unfold buildA at he
 split at he
 · rename_i z fs l hz hu hl
   split at he
   · rename_i places hp
     split at he
     · rename_i hs
       simp only [Option.map_eq_some_iff] at he
       obtain ⟨cs, hc, rfl⟩ := he
       obtain ⟨cs', h1, h2⟩ := fill_ok (evs_ok h hl) (VL.of_sc (A := A) (p := p) hs) hc
       have e : (parts.map fun x => (x.1, a.eval x.2)).toList = parts.toList.map fun x => (x.1, a.eval x.2) := by simp
       refine ⟨.agg cs', by simpa using h2.agg, fun w => ?_⟩
       unfold Instr.build
       simp only [Sem.run_bind, runP_ok hz w, Result.andThen_ok, Sem.run_pure, run_underlying hu, runP_ok hp w, e, h1]
     · cases he
   · cases he
 · rename_i z n0 elem l hz hu hl
   split at he
   · rename_i n hn
     split at he
     · rename_i hs
       simp only [Option.map_eq_some_iff] at he
       obtain ⟨cs, hc, rfl⟩ := he
       obtain ⟨cs', h1, h2⟩ := fill_ok (evs_ok h hl) (VL.of_sc (A := A) (p := p) hs) hc
       have e : (parts.map fun x => (x.1, a.eval x.2)).toList = parts.toList.map fun x => (x.1, a.eval x.2) := by simp
       refine ⟨.agg cs', by simpa using h2.agg, fun w => ?_⟩
       unfold Instr.build
       simp only [Sem.run_bind, runP_ok hz w, Result.andThen_ok, Sem.run_pure, run_underlying hu, run_sizeOf hn, e, h1]
     · cases he
   · cases he
 · cases he
theorem sliceA_ok {H : Hp} {w0 : World} (hR : Rel p H w0) (h : TR H.al p T a.tmps) {t : TypeId} {x : Operand} {lo hi mx : Option Operand} (he : sliceA P H (ev T) t x lo hi mx = some v) :
   ∃ v', VR H.al p v v' ∧ ∀ w, (Instr.sliceAt t (a.eval x) (lo.map a.eval) (hi.map a.eval) (mx.map a.eval)).run P w = .ok v' w := by
 unfold sliceA at he
 split at he
 · rename_i s hx hu
   split at he
   · rename_i l u h1 h2
     split at he
     · rename_i hb
       injection he with he; subst he
       refine ⟨_, .str _, fun w => ?_⟩
       rw [ev_sc h hx rfl]
       rcases bnd_ok h h1 with ⟨rfl, rfl⟩ | ⟨y1, k1, i1, rfl, e1, p1, rfl⟩ <;> rcases bnd_ok h h2 with ⟨rfl, rfl⟩ | ⟨y2, k2, i2, rfl, e2, p2, rfl⟩
       · simp [Instr.sliceAt, Instr.slice, run_underlying hu, Instr.sliceBounds]
       · have q2 : i2 ≤ (s.size : Int) := by omega
         simp [Instr.sliceAt, Instr.slice, run_underlying hu, Instr.sliceBounds, Instr.sliceBound, asIntOf, e2, p2, q2]
       · have q1 : i1 ≤ (s.size : Int) := by omega
         simp [Instr.sliceAt, Instr.slice, run_underlying hu, Instr.sliceBounds, Instr.sliceBound, asIntOf, e1, p1, q1]
       · have q2 : i2 ≤ (s.size : Int) := by omega
         have q1 : i1 ≤ max i2 0 := by omega
         simp [Instr.sliceAt, Instr.slice, run_underlying hu, Instr.sliceBounds, Instr.sliceBound, asIntOf, e1, p1, q1, e2, p2, q2]
     · cases he
   · cases he
 · rename_i b o len c elem hx hu
   split at he
   · rename_i l u n blk h1 h2 hn hg
     split at he
     · rename_i hb
       injection he with he; subst he
       obtain ⟨hb1, hb2, hb3, hb4⟩ := hb
       have hez := (hR.esz b blk hg).trans hb4
       have hv := ev_ok h hx
       generalize a.eval x = vx at hv
       have run : ∀ (A' : Option Addr) (c' : Nat), c ≤ c' → ∀ w, (Instr.sliceAt t (.slice A' len c') (lo.map a.eval) (hi.map a.eval) none).run P w = .ok (.slice (if c' = l then A' else A'.map (·.add (l * n))) (u - l) (c' - l)) w := by
         intro A' c' hcc w
         rcases bnd_ok h h1 with ⟨rfl, rfl⟩ | ⟨y1, k1, i1, rfl, e1, p1, rfl⟩ <;> rcases bnd_ok h h2 with ⟨rfl, rfl⟩ | ⟨y2, k2, i2, rfl, e2, p2, rfl⟩
         · simp [Instr.sliceAt, Instr.slice, run_underlying hu, Instr.sliceBounds, run_sizeOf hn]
         · have q2 : i2 ≤ (c' : Int) := by omega
           simp [Instr.sliceAt, Instr.slice, run_underlying hu, Instr.sliceBounds, Instr.sliceBound, asIntOf, e2, p2, q2, run_sizeOf hn]
         · have q1 : i1 ≤ (u : Int) := by omega
           simp [Instr.sliceAt, Instr.slice, run_underlying hu, Instr.sliceBounds, Instr.sliceBound, asIntOf, e1, p1, q1, run_sizeOf hn]
         · have q2 : i2 ≤ (c' : Int) := by omega
           have q1 : i1 ≤ max i2 0 := by omega
           simp [Instr.sliceAt, Instr.slice, run_underlying hu, Instr.sliceBounds, Instr.sliceBound, asIntOf, e1, p1, q1, e2, p2, q2, run_sizeOf hn]
       cases hv with
       | slc b o l0 c0 c' hA hc ht =>
         refine ⟨_, ?_, fun w => run _ _ hc w⟩
         by_cases hcl : c' = l
         · subst hcl
           rw [if_pos rfl]
           have e1 : u - c' = 0 := by omega
           have e2 : c - c' = 0 := by omega
           rw [e1, e2, Nat.sub_self]
           exact .szero _ _ _ _ hA
         · rw [if_neg hcl]
           simp only [Option.map_some, addr_add, Nat.add_assoc]
           refine .slc _ _ _ _ _ hA (by omega) ?_
           have h5 : c' = (c' - l) + l := by omega
           have h6 : c' * (p b).esz = (c' - l) * (p b).esz + l * (p b).esz := by conv => lhs; rw [h5, Nat.add_mul]
           rw [← ht, h6, hez]; omega
       | sfor b o a' c' hA hf =>
         refine ⟨_, ?_, fun w => run _ _ (Nat.zero_le _) w⟩
         have e0 : l = 0 := by omega
         have e1 : u = 0 := by omega
         subst e0 e1
         simp only [Nat.sub_zero]
         exact .sfor _ _ _ _ hA hf
       | szero b o b' o' hA =>
         refine ⟨_, ?_, fun w => run _ _ (Nat.le_refl _) w⟩
         have e0 : l = 0 := by omega
         have e1 : u = 0 := by omega
         subst e0 e1
         simp only [if_true, Nat.sub_zero]
         exact .szero _ _ _ _ hA
     · cases he
   · cases he
 · rename_i b o len c elem m hx hu
   split at he
   · rename_i y k0 blk n hm hg hn
     split at he
     · rename_i k1 hy
       injection he with he; subst he
       have e1 := ev_sc h hm rfl
       have e2 := ev_sc h hy rfl
       have hv := ev_ok h hx
       generalize a.eval x = vx at hv
       have run : ∀ (A' : Option Addr) (l' c' : Nat), ∃ A2, ∀ w, (Instr.sliceAt t (.slice A' l' c') none (some (a.eval y)) (some (a.eval m))).run P w = .ok (.slice A2 0 0) w ∧ (A' = none → A2 = none) ∧ (∀ b o, A' = some ⟨b, o, none⟩ → A2 = A') := by
         intro A' l' c'
         refine ⟨A', fun w => ⟨?_, id, fun _ _ _ => rfl⟩⟩
         rw [e1, e2]
         simp [Instr.sliceAt, Instr.slice, run_underlying hu, Instr.sliceBounds, Instr.sliceBound, asIntOf, run_sizeOf hn]
       cases hv with
       | slc b o l0 c0 c' hA hc ht =>
         obtain ⟨A2, hr⟩ := run (some ⟨(p b).blk, (p b).off + o, none⟩) len c'
         refine ⟨.slice (some ⟨(p b).blk, (p b).off + o, none⟩) 0 0, .szero _ _ _ _ hA, fun w => ?_⟩
         have := hr w
         rw [this.2.2 _ _ rfl] at this
         exact this.1
       | sfor b o a' c' hA hf =>
         obtain ⟨A2, hr⟩ := run a' 0 c'
         exact ⟨.slice A2 0 0, .sfor _ _ _ _ hA hf, fun w => (hr w).1⟩
       | szero b o b' o' hA =>
         obtain ⟨A2, hr⟩ := run (some ⟨b', o', none⟩) 0 0
         refine ⟨.slice (some ⟨b', o', none⟩) 0 0, .szero _ _ _ _ hA, fun w => ?_⟩
         have := hr w
         rw [this.2.2 _ _ rfl] at this
         exact this.1
     · cases he
   · cases he
 · cases he
theorem evl_ok (h : TR A p T a.tmps) : ∀ {l : List Operand} {r : List Value}, evl (ev T) l = some r → VL A p r (l.map a.eval)
 | [], r, he => by simp [evl] at he; subst he; exact VL.nil
 | x :: l, r, he => by
   simp only [evl] at he
   split at he
   · rename_i v m h1 h2
     injection he with he; subst he
     exact (evl_ok h h2).cons (ev_ok h h1)
   · cases he
theorem VL.sc_eq {xs ys : List Value} (h : VL A p xs ys) (hs : xs.all sc = true) : ys = xs := by
 refine List.ext_getElem h.1.symm fun i h1 h2 => ?_
 obtain ⟨u, k1, k2⟩ := h.2 i xs[i] (by simp [h2])
 rw [List.getElem?_eq_getElem h1] at k1
 injection k1 with k1
 rw [k1]
 exact k2.sc_eq (List.all_eq_true.1 hs _ (List.getElem_mem _))
theorem plainA_ok (h : TR A p T a.tmps) {f : Array Value → Sem Value} {args : Array Operand} (he : plainA P (ev T) f args = some v) :
   ∃ v', VR A p v v' ∧ ∀ w, (f (args.map a.eval)).run P w = .ok v' w := by
 unfold plainA at he
 split at he
 · rename_i vs hvs
   split at he
   · rename_i hs
     have e := (evl_ok h hvs).sc_eq hs
     have e2 : args.map a.eval = vs.toArray := by
       apply Array.toList_inj.1
       simpa using e
     rw [e2]
     exact ⟨v, runS_ok he⟩
   · cases he
 · cases he
theorem VR.of_flat (hs : flatT v = true) : VR A p v v := by
 unfold flatT at hs
 split at hs
 · rename_i xs
   exact VL.tup (VL.of_sc hs)
 · exact VR.of_sc hs
theorem extnA_ok (h : TR A p T a.tmps) {g : FuncId} {args : Array Operand} (he : extnA P (ev T) g args = some v) :
   VR A p v v ∧ ∀ w, (callFunc g (args.map a.eval)).run P w = .ok (.value v) w := by
 unfold extnA at he
 split at he
 · split at he
   · cases he
   · split at he
     · rename_i vs hvs
       split at he
       · rename_i hs
         split at he
         · rename_i u hr
           split at he
           · rename_i hf
             injection he with he; subst he
             have e := (evl_ok h hvs).sc_eq hs
             have e2 : args.map a.eval = vs.toArray := by
               apply Array.toList_inj.1
               simpa using e
             rw [e2]
             exact ⟨VR.of_flat hf, fun w => runP_ok hr w⟩
           · cases he
         · cases he
       · cases he
     · cases he
 · cases he
theorem pureA_ok {H : Hp} {w0 : World} (hR : Rel p H w0) (h : TR H.al p T a.tmps) {o : Oper} (he : pureA P H (ev T) o = some v) :
   ∃ v', VR H.al p v v' ∧ ∀ w, (execOp a.eval o).run P w = .ok (.value v') w := by
 unfold pureA at he
 unfold execOp
 split at he
 · rename_i x ho; simp only [ho]; exact ⟨_, ev_ok h he, fun w => rfl⟩
 · rename_i x ho; simp only [ho]; exact ⟨_, ev_ok h he, fun w => rfl⟩
 · rename_i c x y ho
   simp only [ho]
   split at he
   · rename_i t hc
     have e := ev_sc h hc rfl
     split at he
     · rename_i ht; subst ht; exact ⟨_, ev_ok h he, fun w => by simp [e, asBool]⟩
     · rename_i ht
       have ht : t = false := by simpa using ht
       subst ht; exact ⟨_, ev_ok h he, fun w => by simp [e, asBool]⟩
   · cases he
 · rename_i op xt x y yt ho
   simp only [ho]
   obtain ⟨v', h1, h2⟩ := binA_ok hR.esz h he
   exact ⟨v', h1, fun w => by have := h2 w; rw [Sem.run_bind]; simp only [this]; rfl⟩
 · rename_i op xt x ho
   simp only [ho]
   split at he
   · rename_i u hu
     split at he
     · rename_i hs
       rw [ev_sc h hu hs]
       exact ⟨v, (runS_ok he).1, fun w => by simp [(runS_ok (A := H.al) (p := p) he).2 w]⟩
     · cases he
   · cases he
 · rename_i s d x ho
   simp only [ho]
   split at he
   · rename_i u hu
     split at he
     · rename_i hs
       rw [ev_sc h hu hs]
       exact ⟨v, (runS_ok he).1, fun w => by simp [(runS_ok (A := H.al) (p := p) he).2 w]⟩
     · cases he
   · cases he
 · rename_i t i ho
   simp only [ho]
   split at he
   · rename_i vs hu
     have hv := ev_ok h hu
     generalize a.eval t = u at hv
     cases hv with
     | tup xs ys hl hh =>
       obtain ⟨v', h1, h2⟩ := (VL.of_arr hl hh).2 i v (by simpa using he)
       simp at h1
       exact ⟨v', h2, fun w => by simp [Instr.extract, h1]⟩
   · cases he
 · rename_i xt x f ho
   simp only [ho]
   obtain ⟨v', h1, h2⟩ := fieldA_ok h he
   exact ⟨v', h1, fun w => by simp [h2]⟩
 · rename_i s x f ho
   simp only [ho]
   obtain ⟨v', h1, h2⟩ := fieldAddrA_ok h he
   exact ⟨v', h1, fun w => by simp [h2]⟩
 · rename_i xt x ix ho
   simp only [ho]
   obtain ⟨v', h1, h2⟩ := indexA_ok h he
   exact ⟨v', h1, fun w => by simp [h2]⟩
 · rename_i t x ix ho
   simp only [ho]
   obtain ⟨v', h1, h2⟩ := indexAddrA_ok h he
   exact ⟨v', h1, fun w => by simp [h2]⟩
 · rename_i t x lo hi mx ho
   simp only [ho]
   obtain ⟨v', h1, h2⟩ := sliceA_ok hR h he
   exact ⟨v', h1, fun w => by simp [h2]⟩
 · rename_i f fst cap ho
   simp only [ho]
   split at he
   · rename_i vs us h1 h2
     injection he with he; subst he
     have k1 := evl_ok h h1
     have k2 := evl_ok h h2
     refine ⟨.func (.func f) (fst.map a.eval) (cap.map a.eval), ?_, fun w => rfl⟩
     have e1 : fst.map a.eval = (fst.toList.map a.eval).toArray := Array.toList_inj.1 (by rw [Array.toList_map])
     have e2 : cap.map a.eval = (cap.toList.map a.eval).toArray := Array.toList_inj.1 (by rw [Array.toList_map])
     rw [e1, e2]
     refine .clo f _ _ _ _ (by simpa using k1.1) (fun i g1 g2 => ?_) (by simpa using k2.1) (fun i g1 g2 => ?_)
     · simp only [List.size_toArray, List.length_map] at g1 g2
       obtain ⟨u, q1, q2⟩ := k1.2 i vs[i] (by simp [g1])
       rw [List.getElem?_eq_getElem (by simpa using g2)] at q1
       injection q1 with q1; subst q1
       simpa using q2
     · simp only [List.size_toArray, List.length_map] at g1 g2
       obtain ⟨u, q1, q2⟩ := k2.2 i us[i] (by simp [g1])
       rw [List.getElem?_eq_getElem (by simpa using g2)] at q1
       injection q1 with q1; subst q1
       simpa using q2
   · cases he
 · rename_i t parts ho
   simp only [ho]
   obtain ⟨v', h1, h2⟩ := buildA_ok h he
   exact ⟨v', h1, fun w => by simp [h2]⟩
 · rename_i x ho
   simp only [ho]
   split at he
   · rename_i ad hu
     injection he with he; subst he
     have hv := ev_ok h hu
     generalize a.eval x = u at hv
     cases hv with
     | ptr b o hA => exact ⟨_, .ptr b o hA, fun w => rfl⟩
   · cases he
 · rename_i args ats ho
   simp only [ho]
   obtain ⟨v', h1, h2⟩ := lenA_ok (ty := o.type) h he
   exact ⟨v', h1, fun w => by simp [resolve, invoke, builtin, h2]⟩
 · rename_i args ats ho
   simp only [ho]
   obtain ⟨v', h1, h2⟩ := plainA_ok h he
   exact ⟨v', h1, fun w => by simp [resolve, invoke, builtin, h2]⟩
 · rename_i args ats ho
   simp only [ho]
   obtain ⟨v', h1, h2⟩ := plainA_ok h he
   exact ⟨v', h1, fun w => by simp [resolve, invoke, builtin, h2]⟩
 · rename_i g args ats ho
   simp only [ho]
   obtain ⟨h1, h2⟩ := extnA_ok h he
   exact ⟨v, h1, fun w => by simp [resolve, Act.eval, Deferred.ofValue, invoke, h2]⟩
 · cases he
end
end Go.Proofs.YtdipnhghdajplaaGreatDoor
namespace Go.Proofs.YtdipnhghdajplaaGreatDoor
open Go.RowKit
set_option linter.unusedSimpArgs false
set_option linter.unusedVariables false
section
variable {P : Program} {A : Nat → Prop} {p p' : Nat → Pla} {H H' : Hp} {w w' : World} {T : List Value} {a : Act} {v : Value} {L : Lim}
theorem Rel.upd (h : Rel p H w) (hlen : H'.l.length = H'.n) (k : Nat) (bk : Blk) (hk : H'.get k = some bk)
   (hold : ∀ j b, j ≠ k → H'.get j = some b → H.get j = some b ∧ p' j = p j ∧ w'.heap[(p j).blk]? = w.heap[(p j).blk]?)
   (hmono : ∀ b, H.al b → H'.al b ∧ p' b = p b) (hsz : w.heap.size ≤ w'.heap.size)
   (hc : ∃ cs' : Array Value, w'.heap[(p' k).blk]? = some (.cells cs' bk.ty (0, 0)) ∧ (p' k).off = 0 ∧ cs'.size = (p' k).tot ∧ (0 < bk.esz → ∃ cap, cap ≤ maxLen ∧ (p' k).tot = cap * bk.esz) ∧ ∀ (i : Nat) (v : Value), bk.cs[i]? = some v → ∃ v' : Value, cs'[i]? = some v' ∧ VR H'.al p' v v')
   (hez : (p' k).esz = bk.esz) (hap : ∀ j b, j ≠ k → H'.get j = some b → (p' j).blk ≠ (p' k).blk) : Rel p' H' w' := by
 obtain ⟨cs', c1, c2, c3, c5, c4⟩ := hc
 refine ⟨hlen, ?_, ?_, ?_, ?_, ?_⟩
 · intro i b hb m v hv
   by_cases hik : i = k
   · subst hik
     rw [hk] at hb; injection hb with hb; subst hb
     obtain ⟨v', h1, h2⟩ := c4 m v hv
     refine ⟨v', ?_, h2⟩
     rw [cell_of_row w' _ _ cs' _ _ c1, c2, Nat.zero_add]; exact h1
   · obtain ⟨h1, h2, h3⟩ := hold i b hik hb
     obtain ⟨v', h4, h5⟩ := h.cell i b h1 m v hv
     refine ⟨v', ?_, h5.mono hmono⟩
     rw [h2, ← h4]; unfold World.cell?; simp only [h3]
 · intro i b hb ho
   by_cases hik : i = k
   · subst hik
     rw [hk] at hb; injection hb with hb; subst hb
     exact ⟨cs', c1, c2, c3, c5⟩
   · obtain ⟨h1, h2, h3⟩ := hold i b hik hb
     obtain ⟨cs2, d1, d2, d3, d4⟩ := h.own i b h1 ho
     exact ⟨cs2, by rw [h2, h3]; exact d1, by rw [h2]; exact d2, by rw [h2]; exact d3, by rw [h2]; exact d4⟩
 · intro i b hb
   by_cases hik : i = k
   · subst hik
     rw [hk] at hb; injection hb with hb; subst hb
     exact hez
   · obtain ⟨h1, h2, h3⟩ := hold i b hik hb
     rw [h2]; exact h.esz i b h1
 · intro i b hb
   by_cases hik : i = k
   · subst hik
     exact (Array.getElem?_eq_some_iff.1 c1).1
   · obtain ⟨h1, h2, h3⟩ := hold i b hik hb
     rw [h2]; exact Nat.lt_of_lt_of_le (h.lt i b h1) hsz
 · intro i j b c hb hc2 ho e
   by_cases hik : i = k
   · subst hik
     by_cases hjk : j = i
     · exact hjk.symm
     · exact absurd e.symm (hap j c hjk hc2)
   · by_cases hjk : j = k
     · subst hjk; exact absurd e (hap i b hik hb)
     · obtain ⟨h1, h2, h3⟩ := hold i b hik hb
       obtain ⟨h4, h5, h6⟩ := hold j c hjk hc2
       exact h.apart i j b c h1 h4 ho (by rw [← h2, ← h5]; exact e)
theorem cells_ok {g : Nat} : ∀ {cs : List Value} {o : Nat}, (∀ k v, cs[k]? = some v → ∃ v', w.cell? ⟨g, o + k, none⟩ = some v' ∧ VR A p v v') →
   ∃ ys, VL A p cs ys ∧ ∀ j u, ys[j]? = some u → w.cell? ⟨g, o + j, none⟩ = some u
 | [], o, _ => ⟨[], VL.nil, fun j u h => by simp at h⟩
 | v :: r, o, h => by
   obtain ⟨v', h1, h2⟩ := h 0 v rfl
   obtain ⟨ys, h3, h4⟩ := cells_ok (cs := r) (o := o + 1) (fun k u hu => by
     have := h (k + 1) u (by simpa using hu)
     rwa [show o + (k + 1) = o + 1 + k by omega] at this)
   refine ⟨v' :: ys, h3.cons h2, fun j u hu => ?_⟩
   cases j with
   | zero => simp at hu; subst hu; exact h1
   | succ j => rw [show o + (j + 1) = o + 1 + j by omega]; exact h4 j u (by simpa using hu)
def loadA (P : Program) (H : Hp) (e : Operand → Option Value) (t : TypeId) (x : Operand) : Option (Nat × Value) :=
 match e x with
 | some (.pointer (some ⟨b, o, none⟩)) => match H.get b, isAggA P t, szA P t with
   | some blk, some true, some n => if ((blk.cs.drop o).take n).length = n then some (b, .agg ((blk.cs.drop o).take n).toArray) else none
   | some blk, some false, _ => match blk.cs[o]? with
     | some v => some (b, v)
     | none => none
   | _, _, _ => none
 | _ => none
theorem loadA_at (h : Rel p H w) {b o : Nat} {blk : Blk} (hg : H.get b = some blk) {t : TypeId} {b' : Nat}
   (he : (match isAggA P t, szA P t with
     | some true, some n => if ((blk.cs.drop o).take n).length = n then some (b, Value.agg ((blk.cs.drop o).take n).toArray) else none
     | some false, _ => (match blk.cs[o]? with
       | some v => some (b, v)
       | none => none)
     | _, _ => none) = some (b', v)) :
   b' = b ∧ ∃ v', VR H.al p v v' ∧ ∀ w2 : World, (∀ off, w2.cell? ⟨(p b).blk, off, none⟩ = w.cell? ⟨(p b).blk, off, none⟩) → (loadVar t ⟨(p b).blk, (p b).off + o, none⟩).run P w2 = .ok v' w2 := by
 split at he
 · rename_i n hag hn
   split at he
   · rename_i hl
     injection he with he; injection he with e1 e2; subst e1 e2
     obtain ⟨ys, h1, h2⟩ := cells_ok (A := H.al) (p := p) (w := w) (g := (p b).blk) (o := (p b).off + o) (cs := (blk.cs.drop o).take n) (fun k u hu => by
       simp only [List.getElem?_take, List.getElem?_drop] at hu
       split at hu
       · have := h.cell b blk hg (o + k) u hu
         rwa [← Nat.add_assoc] at this
       · cases hu)
     refine ⟨rfl, .agg ys.toArray, h1.agg, fun w2 h3 => ?_⟩
     have hy : ys.length = n := by rw [← h1.1]; exact hl
     have := run_loadCells_list (P := P) w2 ⟨(p b).blk, (p b).off + o, none⟩ ys (fun j u hu => by rw [addr_add, h3]; exact h2 j u hu)
     rw [hy] at this
     simp [loadVar, run_isAgg hag, run_sizeOf hn, this]
   · cases he
 · rename_i hag
   split at he
   · rename_i u hu
     injection he with he; injection he with e1 e2; subst e1 e2
     obtain ⟨v', h1, h2⟩ := h.cell b blk hg o u hu
     exact ⟨rfl, v', h2, fun w2 h3 => by simp [loadVar, run_isAgg hag, h3, h1]⟩
   · cases he
 · cases he
theorem loadA_ok (h : Rel p H w) (hT : TR H.al p T a.tmps) {t : TypeId} {x : Operand} {b : Nat} (he : loadA P H (ev T) t x = some (b, v)) :
   (∃ blk, H.get b = some blk) ∧ ∃ v', VR H.al p v v' ∧ ∀ w2 : World, (∀ off, w2.cell? ⟨(p b).blk, off, none⟩ = w.cell? ⟨(p b).blk, off, none⟩) → (Instr.loadAt t (a.eval x)).run P w2 = .ok v' w2 := by
 unfold loadA at he
 split at he
 · rename_i b0 o hx
   have hv := ev_ok hT hx
   generalize a.eval x = u at hv
   cases hv with
   | ptr b0 o hA =>
     cases hg : H.get b0 with
     | none => rw [hg] at he; simp at he
     | some blk =>
       have : b = b0 ∧ _ := loadA_at (P := P) (t := t) (o := o) (b' := b) (v := v) h hg (by
         rw [hg] at he
         rw [← he]
         cases isAggA P t with
         | none => rfl
         | some q => cases q <;> cases szA P t <;> rfl)
       obtain ⟨rfl, v', h1, h2⟩ := this
       exact ⟨⟨blk, hg⟩, v', h1, fun w2 h3 => by simp [Instr.loadAt, Instr.sureAddr, h2 w2 h3]⟩
 · cases he
theorem splice_get {l vs : List Value} {o k : Nat} (ho : o + vs.length ≤ l.length) : (l.take o ++ vs ++ l.drop (o + vs.length))[k]? = if k < o then l[k]? else if k < o + vs.length then vs[k - o]? else l[k]? := by
 have hlo : (l.take o).length = o := by simp; omega
 by_cases h1 : k < o
 · rw [if_pos h1, List.append_assoc, List.getElem?_append_left (by omega), List.getElem?_take, if_pos h1]
 · rw [if_neg h1]
   by_cases h2 : k < o + vs.length
   · rw [if_pos h2, List.append_assoc, List.getElem?_append_right (by omega), List.getElem?_append_left (by omega), hlo]
   · rw [if_neg h2, List.getElem?_append_right (by simp; omega), List.getElem?_drop]
     congr 1
     simp; omega
def storeA (P : Program) (L : Lim) (H : Hp) (e : Operand → Option Value) (t : TypeId) (x y : Operand) : Option Hp :=
 match e x, e y, szA P t with
 | some (.pointer (some ⟨b, o, none⟩)), some v, some n => match H.get b with
   | some blk => if blk.own ∧ L.ok b ∧ v.cells.toList.length = n ∧ o + n ≤ blk.cs.length ∧ v.cells.toList.all (·.oneCell') then
       some (H.put b (.live { blk with cs := blk.cs.take o ++ v.cells.toList ++ blk.cs.drop (o + v.cells.toList.length) })) else none
   | none => none
 | _, _, _ => none
theorem storeA_ok (h : Rel p H w) (hT : TR H.al p T a.tmps) {t : TypeId} {x y : Operand} (he : storeA P L H (ev T) t x y = some H') :
   ∃ w', (Instr.storeAt t (a.eval x) (a.eval y)).run P w = .ok () w' ∧ Stp L p H w p H' w' := by
 unfold storeA at he
 split at he
 · rename_i b o v n hx hy hn
   have hv := ev_ok hT hx
   have hvy := ev_ok hT hy
   generalize a.eval x = u at hv
   generalize a.eval y = uy at hvy
   cases hv with
   | ptr _ _ hA =>
   split at he
   · rename_i blk hg
     split at he
     · rename_i hc
       obtain ⟨c1, c2, c3, c4, c5⟩ := hc
       injection he with he
       have hbn := Hp.lt_of_ent (by rw [Hp.ent_of_get hg]; simp : H.ent b ≠ .fresh)
       obtain ⟨cs', d1, d2, d3, d4⟩ := h.own b blk hg c1
       have hcs := hvy.cells
       have hcl := hcs.1
       have hus : uy.cells.toList.length = uy.cells.size := by simp
       have ocs : blk.cs.length ≤ cs'.size := by
         rcases Nat.lt_or_ge cs'.size blk.cs.length with hlt | hge
         · obtain ⟨v', e1, _⟩ := h.cell b blk hg cs'.size blk.cs[cs'.size] (by simp [hlt])
           rw [cell_of_row w _ _ cs' _ _ d1, d2] at e1
           simp at e1
         · exact hge
       have hst := run_storeCells_at P (p b).blk o blk.ty uy.cells.toList 0 cs' w d1 (by simp only [Nat.add_zero]; omega) (hcs.one c5)
       have hget : ∀ j, H'.ent j = if j = b then .live { blk with cs := blk.cs.take o ++ v.cells.toList ++ blk.cs.drop (o + v.cells.toList.length) } else H.ent j := fun j => by rw [← he]; exact Hp.ent_put h.len hbn
       have hal : ∀ j, H'.al j ↔ H.al j := fun j => by
         unfold Hp.al; rw [hget]
         by_cases hj : j = b
         · subst hj; rw [if_pos rfl, Hp.ent_of_get hg]; simp
         · rw [if_neg hj]
       have hge : ∀ j c, j ≠ b → H'.get j = some c → H.get j = some c := fun j c hj hc => by
         have := Hp.ent_of_get hc; rw [hget, if_neg hj] at this; exact Hp.get_of_ent this
       have hge2 : ∀ j c, H'.get j = some c → c.own = true → ∃ b, H.get j = some b ∧ b.own = true := fun j c hc ho => by
         by_cases hj : j = b
         · subst hj; exact ⟨blk, hg, c1⟩
         · exact ⟨c, hge j c hj hc, ho⟩
       have hrel : Rel p H' (w.setRow (p b).blk (cs'.toList.take o ++ uy.cells.toList ++ cs'.toList.drop (o + uy.cells.toList.length)).toArray) := by
         refine h.upd (p' := p) (H' := H') (by rw [← he]; simp [Hp.put, h.len]) b { blk with cs := blk.cs.take o ++ v.cells.toList ++ blk.cs.drop (o + v.cells.toList.length) } (Hp.get_of_ent (by rw [hget, if_pos rfl])) ?_ (fun j hj => ⟨(hal j).2 hj, rfl⟩) (by simp) ?_ (h.esz b blk hg) ?_
         · intro j c hj hc
           have hc1 := hge j c hj hc
           refine ⟨hc1, rfl, setRow_other _ _ _ _ fun e => hj (h.apart b j blk c hg hc1 c1 e.symm).symm⟩
         · refine ⟨_, setRow_heap _ _ _ _ _ _ d1, d2, by simp; omega, d4, fun i u hu => ?_⟩
           simp only at hu
           rw [splice_get (by omega)] at hu
           rw [List.getElem?_toArray, splice_get (by simp; omega)]
           split at hu
           · rename_i hi
             rw [if_pos hi]
             obtain ⟨u', e1, e2⟩ := h.cell b blk hg i u hu
             rw [cell_of_row w _ _ cs' _ _ d1, d2, Nat.zero_add] at e1
             exact ⟨u', by simpa using e1, e2.mono fun j hj => ⟨(hal j).2 hj, rfl⟩⟩
           · rename_i hi
             rw [if_neg hi]
             split at hu
             · rename_i hi2
               rw [if_pos (by omega)]
               obtain ⟨u', e1, e2⟩ := hcs.2 _ u hu
               exact ⟨u', e1, e2.mono fun j hj => ⟨(hal j).2 hj, rfl⟩⟩
             · rename_i hi2
               rw [if_neg (by omega)]
               obtain ⟨u', e1, e2⟩ := h.cell b blk hg i u hu
               rw [cell_of_row w _ _ cs' _ _ d1, d2, Nat.zero_add] at e1
               exact ⟨u', by simpa using e1, e2.mono fun j hj => ⟨(hal j).2 hj, rfl⟩⟩
         · intro j c hj hc e
           exact hj (h.apart b j blk c hg (hge j c hj hc) c1 e.symm).symm
       refine ⟨_, ?_, fun j hj => ⟨(hal j).2 hj, rfl⟩, hrel, rfl, rfl, rfl, by simp, fun k hk hn => setRow_other _ _ _ _ (fun e => hn b ⟨blk, hg, c1, c2⟩ e.symm), fun j c hc ho => .inr ⟨j, .inl rfl, hge2 j c hc ho, rfl⟩⟩
       have hsz : uy.cells.size = n := by have := hcl; simp at this; rw [← this]; simpa using c3
       rw [d2]
       simp only [Nat.zero_add, Nat.add_zero] at hst ⊢
       simp [Instr.storeAt, Instr.sureAddr, storeVar, run_sizeOf hn, hsz, hst]
     · cases he
   · cases he
 · cases he
end
end Go.Proofs.YtdipnhghdajplaaGreatDoor
