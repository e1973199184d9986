/- What a term of a form may speak of, and terms in memory; nothing of the program. -/
import Derived.Test.YtcndmiolaheaeabGreatDoorKSq
namespace Go.Proofs.YtcndmiolaheaeabGreatDoor
open Go.RowKit
set_option linter.unusedSimpArgs false
set_option linter.unusedVariables false

inductive Tm where
  | node (op w a b : Int) (ks : List Tm)
/-- Files: count, width, zero; classes: kind, file; flags; the operands' classes. -/
structure Env where
  files : List (Int × Int × Int)
  classes : List (Int × Int)
  nflags : Nat
  args : List Int
/-- A number is a place of n. -/
def plB (x : Int) (n : Nat) : Bool := decide (0 ≤ x) && decide (x < n)
def wideI (w : Int) : Int := if 1 ≤ w ∧ w ≤ 128 then w else 0
def sharedI (a b : Int) : Int := if a = b then a else 0
def memB (w : Int) : Bool := decide (w = 8) || decide (w = 16) || decide (w = 32) || decide (w = 64)
def fileB (f : Int × Int × Int) : Bool := decide (1 ≤ f.1) && decide (f.1 ≤ 64) && decide (1 ≤ f.2.1) && decide (f.2.1 ≤ 64) && decide (-1 ≤ f.2.2) && decide (f.2.2 < f.1)
def kidsI (op : Int) : Int :=
  if 1 ≤ op ∧ op ≤ 17 then 2 else if op = 18 ∨ op = 19 ∨ op = 26 ∨ op = 28 ∨ op = 29 ∨ op = 30 then 1 else if op = 27 then 3 else if 20 ≤ op ∧ op ≤ 25 then 0 else -1
/-- The class of an operand, if both are there. -/
def clsO (E : Env) (x : Int) : Option (Int × Int) :=
  if 0 ≤ x then match E.args[x.toNat]? with
    | some c => if 0 ≤ c then E.classes[c.toNat]? else none
    | none => none
  else none
def fileO (E : Env) (x : Int) : Option (Int × Int × Int) := if 0 ≤ x then match E.files[x.toNat]? with
  | some f => if fileB f then some f else none
  | none => none
  else none
def regW (E : Env) (a b : Int) : Int := match fileO E a with
  | none => 0
  | some f => if clsO E b = some (1, a) then f.2.1 else if b < 0 ∧ -f.1 ≤ b then f.2.1 else 0
def leafW (E : Env) (op w a b : Int) : Int :=
  if op = 20 then wideI w
  else if op = 21 then regW E a b
  else if op = 22 then (match clsO E a with | some c => if c.1 = 1 then 0 else wideI w | none => 0)
  else if op = 23 ∨ op = 24 then 64
  else if op = 25 then (if plB a E.nflags then 1 else 0)
  else 0
def joinW (op w a b x y z : Int) : Int :=
  if op = 7 ∨ op = 8 ∨ op = 9 ∨ op = 18 ∨ op = 19 then x
  else if op = 14 ∨ op = 15 ∨ op = 16 then (if x = y then 1 else 0)
  else if op = 17 then wideI (x + y)
  else if op = 26 then (if x = 64 ∧ memB w then w else 0)
  else if op = 27 then (if x = 1 then sharedI y z else 0)
  else if op = 28 ∨ op = 29 then wideI w
  else if op = 30 then (if 0 ≤ b ∧ b ≤ a ∧ a < x then a - b + 1 else 0)
  else sharedI x y
mutual
/-- A term's width; 0: it isn't right. -/
def widT (E : Env) : Tm → Int
  | .node op w a b ks => if (ks.length : Int) = kidsI op then match widL E ks with
      | none => 0
      | some ws => if ks.length = 0 then leafW E op w a b else joinW op w a b (ws.getD 0 0) (ws.getD 1 0) (ws.getD 2 0)
    else 0
/-- The widths of all, if all are right. -/
def widL (E : Env) : List Tm → Option (List Int)
  | [] => some []
  | t :: r => if widT E t = 0 then none else match widL E r with
    | none => none
    | some ws => some (widT E t :: ws)
end
mutual
def TmL (w : World) : Option Addr → List Tm → Prop
  | _, [] => True
  | A, t :: r => ∃ b o, A = some ⟨b, o, none⟩ ∧ TmT w b o t ∧ TmL w (some ⟨b, o + 5, none⟩) r
def TmT (w : World) : Nat → Nat → Tm → Prop
  | b, o, .node op wd x y ks => ∃ A c, ks.length ≤ c ∧ w.cell? ⟨b, o, none⟩ = some (.int .i64 op) ∧ w.cell? ⟨b, o + 1, none⟩ = some (.int .i64 wd) ∧ w.cell? ⟨b, o + 2, none⟩ = some (.int .i64 x) ∧
      w.cell? ⟨b, o + 3, none⟩ = some (.int .i64 y) ∧ w.cell? ⟨b, o + 4, none⟩ = some (.slice A ks.length c) ∧ TmL w A ks
end
mutual
theorem TmL.fr {w w' : World} (k : Fr w w') : ∀ {l : List Tm} {A : Option Addr}, TmL w A l → TmL w' A l
  | [], _, _ => by unfold TmL; trivial
  | t :: r, A, h => by
    unfold TmL at h ⊢
    obtain ⟨b, o, e, ht, hr⟩ := h
    exact ⟨b, o, e, TmT.fr k ht, TmL.fr k hr⟩
theorem TmT.fr {w w' : World} (k : Fr w w') : ∀ {t : Tm} {b o : Nat}, TmT w b o t → TmT w' b o t
  | .node op wd x y ks, b, o, h => by
    unfold TmT at h ⊢
    obtain ⟨A, c, hc, h0, h1, h2, h3, h4, hk⟩ := h
    exact ⟨A, c, hc, k.get h0, k.get h1, k.get h2, k.get h3, k.get h4, TmL.fr k hk⟩
end
theorem TmL.elem {w : World} : ∀ {l : List Tm} {A : Option Addr} (i : Nat) (hi : i < l.length), TmL w A l → ∃ b o, A = some ⟨b, o, none⟩ ∧ TmT w b (o + 5 * i) l[i]
  | t :: r, A, 0, _, h => by
    unfold TmL at h
    obtain ⟨b, o, e, ht, hr⟩ := h
    exact ⟨b, o, e, by simpa using ht⟩
  | t :: r, A, i + 1, hi, h => by
    unfold TmL at h
    obtain ⟨b, o, e, ht, hr⟩ := h
    obtain ⟨b', o', e', hx⟩ := TmL.elem (w := w) i (by simpa using hi) hr
    injection e' with e'; injection e' with e1 e2; subst e1 e2
    refine ⟨b, o, e, ?_⟩
    simp only [List.getElem_cons_succ]
    rwa [show o + 5 * (i + 1) = o + 5 + 5 * i by omega]
/-- A row of structs of n cells, each as f says of the place of its first cell. -/
def RowOf {α : Type} (f : World → Nat → Nat → α → Prop) (n : Nat) (w : World) (A : Option Addr) (l : List α) : Prop :=
  0 < l.length → ∃ b o, A = some ⟨b, o, none⟩ ∧ ∀ (i : Nat) (h : i < l.length), f w b (o + n * i) l[i]
def FileAt (w : World) (b o : Nat) (f : Int × Int × Int) : Prop := ∃ n, w.cell? ⟨b, o, none⟩ = some (.string n) ∧ w.cell? ⟨b, o + 1, none⟩ = some (.int .i64 f.1) ∧ w.cell? ⟨b, o + 2, none⟩ = some (.int .i64 f.2.1) ∧ w.cell? ⟨b, o + 3, none⟩ = some (.int .i64 f.2.2)
def ClassAt (w : World) (b o : Nat) (c : Int × Int) : Prop := ∃ n u v x y l k, w.cell? ⟨b, o, none⟩ = some (.string n) ∧ w.cell? ⟨b, o + 1, none⟩ = some (.int .i64 c.1) ∧ w.cell? ⟨b, o + 2, none⟩ = some (.int .i64 c.2) ∧
  w.cell? ⟨b, o + 3, none⟩ = some (.int .i64 u) ∧ w.cell? ⟨b, o + 4, none⟩ = some (.int .i64 v) ∧ w.cell? ⟨b, o + 5, none⟩ = some (.int .i64 x) ∧ w.cell? ⟨b, o + 6, none⟩ = some (.slice y l k)
def ArgAt (w : World) (b o : Nat) (c : Int) : Prop := ∃ n, w.cell? ⟨b, o, none⟩ = some n ∧ w.cell? ⟨b, o + 1, none⟩ = some (.int .i64 c)
theorem FileAt.fr {w w' : World} {b o : Nat} {f : Int × Int × Int} (h : FileAt w b o f) (k : Fr w w') : FileAt w' b o f := by
  obtain ⟨n, h0, h1, h2, h3⟩ := h; exact ⟨n, k.get h0, k.get h1, k.get h2, k.get h3⟩
theorem ClassAt.fr {w w' : World} {b o : Nat} {c : Int × Int} (h : ClassAt w b o c) (k : Fr w w') : ClassAt w' b o c := by
  obtain ⟨n, u, v, x, y, l, kk, h0, h1, h2, h3, h4, h5, h6⟩ := h; exact ⟨n, u, v, x, y, l, kk, k.get h0, k.get h1, k.get h2, k.get h3, k.get h4, k.get h5, k.get h6⟩
theorem ArgAt.fr {w w' : World} {b o : Nat} {c : Int} (h : ArgAt w b o c) (k : Fr w w') : ArgAt w' b o c := by
  obtain ⟨n, h0, h1⟩ := h; exact ⟨n, k.get h0, k.get h1⟩
theorem RowOf.fr {α : Type} {f : World → Nat → Nat → α → Prop} {n : Nat} {w w' : World} {A : Option Addr} {l : List α} (hf : ∀ b o x, f w b o x → f w' b o x) (h : RowOf f n w A l) : RowOf f n w' A l := fun hl => by
  obtain ⟨b, o, e, hx⟩ := h hl; exact ⟨b, o, e, fun i hi => hf _ _ _ (hx i hi)⟩
theorem RowOf.at {α : Type} {f : World → Nat → Nat → α → Prop} {n : Nat} {w : World} {A : Option Addr} {l : List α} (h : RowOf f n w A l) {i : Nat} (hi : i < l.length) : ∃ b o, A = some ⟨b, o, none⟩ ∧ f w b (o + n * i) l[i] := by
  obtain ⟨b, o, e, hx⟩ := h (by omega); exact ⟨b, o, e, hx i hi⟩
/-- The rows that a description's value names, and the operands' row, read as E. -/
structure EnvAt (E : Env) (w : World) (Fa Ca Aa : Option Addr) : Prop where
  files : RowOf FileAt 4 w Fa E.files
  classes : RowOf ClassAt 7 w Ca E.classes
  args : RowOf ArgAt 2 w Aa E.args
theorem EnvAt.fr {E : Env} {w w' : World} {Fa Ca Aa : Option Addr} (h : EnvAt E w Fa Ca Aa) (k : Fr w w') : EnvAt E w' Fa Ca Aa :=
  ⟨h.files.fr fun _ _ _ x => x.fr k, h.classes.fr fun _ _ _ x => x.fr k, h.args.fr fun _ _ _ x => x.fr k⟩
end Go.Proofs.YtcndmiolaheaeabGreatDoor
