/- The sum of two sums: the document's Plus. -/
import Derived.Test.YtbnaakognnkhdaaDoorNdd
import Derived.Deep.CutRange
import Derived.Deep.CutBlock
namespace Go.Proofs.YtbnaakognnkhdaaDoor
open Go.RowKit
set_option linter.unusedSimpArgs false
set_option linter.unusedVariables false

/-- Ahead, if it counts. -/
def pushP (s : ByteArray) (n : Int) (l : List (ByteArray × Int)) : List (ByteArray × Int) := if n = 0 then l else (s, n) :: l
def mul64 (k t : Int) : Int := wrap64 (k * t)
def add64 (a b : Int) : Int := wrap64 (a + b)
/-- The sum of two lists, the second one k times. -/
def mergeP (k : Int) : List (ByteArray × Int) → List (ByteArray × Int) → List (ByteArray × Int)
  | [], [] => []
  | x :: r, [] => pushP x.1 x.2 (mergeP k r [])
  | [], y :: s => pushP y.1 (mul64 k y.2) (mergeP k [] s)
  | x :: r, y :: s => if ltB x.1 y.1 then pushP x.1 x.2 (mergeP k r (y :: s)) else if ltB y.1 x.1 then pushP y.1 (mul64 k y.2) (mergeP k (x :: r) s) else pushP x.1 (add64 x.2 (mul64 k y.2)) (mergeP k r s)
termination_by l m => l.length + m.length
def fsts (l : List (ByteArray × Int)) : List ByteArray := l.map Prod.fst
def snds (l : List (ByteArray × Int)) : List Int := l.map Prod.snd
section
variable {P1 P2 : List (ByteArray × Int)} {k : Int} {i j : Nat}
end
/-- The sum that grows: a block of three cells, two rows of its own. -/
structure OutP (W : World) (ob : Nat) (acc : List (ByteArray × Int)) (off : Int) (v1 v2 : Value) (wr : World) : Prop where
  fr : Fr W wr
  lo : W.heap.size ≤ ob
  c0 : wr.cell? ⟨ob, 0, none⟩ = some v1
  c1 : wr.cell? ⟨ob, 1, none⟩ = some v2
  c2 : wr.cell? ⟨ob, 2, none⟩ = some (.int .i64 off)
  f0 : wr.frozen? ⟨ob, 0, none⟩ = false
  f1 : wr.frozen? ⟨ob, 1, none⟩ = false
  o1 : Own strv wr (ob + 1) 9 v1 (fsts acc)
  o2 : Own intv wr (ob + 1) 3 v2 (snds acc)
  apart : ∀ g, v1.ownBlock = some g → v2.ownBlock ≠ some g
theorem OutP.call {W : World} {ob : Nat} {acc : List (ByteArray × Int)} {off : Int} {v1 v2 : Value} {wr wx : World} (h : OutP W ob acc off v1 v2 wr) (k : Fr wr wx) : OutP W ob acc off v1 v2 wx :=
  ⟨h.fr.call k, h.lo, k.get h.c0, k.get h.c1, k.get h.c2, k.free h.c0 h.f0, k.free h.c1 h.f1, h.o1.fr k, h.o2.fr k, h.apart⟩
theorem rd_one {α : Type} {f : α → Value} (w : World) (t : TypeId) (x : α) : Rd f (w.alloc (.cells #[f x] t)) (some ⟨w.heap.size, 0, none⟩) [x] := fun _ =>
  ⟨w.heap.size, 0, rfl, by simp, fun i hi => by
    obtain rfl : i = 0 := by simp at hi; omega
    exact BlkC.alloc (w := w) (t := t) (cs := #[f x]) 0 _ rfl⟩
theorem rd_one' {α : Type} {f : α → Value} (w : World) (t : TypeId) (x : α) {g : Nat} (hg : g = w.heap.size) : Rd f (w.alloc (.cells #[f x] t)) (some ⟨g, 0, none⟩) [x] := by subst hg; exact rd_one w t x
theorem cell_heap {w w' : World} {b o : Nat} (h : w'.heap[b]? = w.heap[b]?) : w'.cell? ⟨b, o, none⟩ = w.cell? ⟨b, o, none⟩ := by simp [World.cell?, h]
theorem grew_cell {w w' : World} {row : Option Nat} {b o : Nat} {v : Value} (k : w.grownBy w' row) (hb : row ≠ some b) (h : w.cell? ⟨b, o, none⟩ = some v) : w'.cell? ⟨b, o, none⟩ = some v :=
  (cell_heap (World.grownBy.block k b (lt_of_cell h) (fun e => hb e.symm))).trans h
theorem grew_free {w w' : World} {row : Option Nat} {b o : Nat} {v : Value} (k : w.grownBy w' row) (hb : row ≠ some b) (h : w.cell? ⟨b, o, none⟩ = some v) (hf : w.frozen? ⟨b, o, none⟩ = false) : w'.frozen? ⟨b, o, none⟩ = false := by
  have e := World.grownBy.block k b (lt_of_cell h) (fun e => hb e.symm)
  simpa [World.frozen?, e] using hf
section
variable {W : World} {ob : Nat} {acc : List (ByteArray × Int)} {off : Int} {v1 v2 v1' v2' : Value} {wc w1 w2 : World} {s : ByteArray} {n : Int} {o : Obj}
theorem own_ne {α : Type} {f : α → Value} {w : World} {e : TypeId} {v : Value} {l : List α} (h : Own f w (ob + 1) e v l) : v.ownBlock ≠ some ob := fun e => by have := h.base_le ob e; omega
theorem OutP.push1 (h : OutP W ob acc off v1 v2 wc) (hg : Grew strv (wc.alloc o) (ob + 1) 9 v1 (fsts acc ++ [s]) v1' w1) :
    w1.cell? ⟨ob, 0, none⟩ = some v1 ∧ w1.cell? ⟨ob, 1, none⟩ = some v2 ∧ w1.cell? ⟨ob, 2, none⟩ = some (.int .i64 off) ∧ w1.frozen? ⟨ob, 0, none⟩ = false ∧ w1.frozen? ⟨ob, 1, none⟩ = false ∧ ob < w1.heap.size := by
  have k := (Fr.refl wc).alloc o
  have hn := own_ne h.o1
  have c := grew_cell hg.2.1 hn (k.get h.c0)
  exact ⟨c, grew_cell hg.2.1 hn (k.get h.c1), grew_cell hg.2.1 hn (k.get h.c2), grew_free hg.2.1 hn (k.get h.c0) (k.free h.c0 h.f0), grew_free hg.2.1 hn (k.get h.c1) (k.free h.c1 h.f1), lt_of_cell c⟩
/-- Between the two appends: the names are one more. -/
structure MidP (W : World) (ob : Nat) (acc : List (ByteArray × Int)) (s : ByteArray) (off : Int) (v1' v2 : Value) (w1 : World) : Prop where
  fr : Fr W w1
  lo : W.heap.size ≤ ob
  c0 : w1.cell? ⟨ob, 0, none⟩ = some v1'
  c1 : w1.cell? ⟨ob, 1, none⟩ = some v2
  c2 : w1.cell? ⟨ob, 2, none⟩ = some (.int .i64 off)
  f0 : w1.frozen? ⟨ob, 0, none⟩ = false
  f1 : w1.frozen? ⟨ob, 1, none⟩ = false
  o1 : Own strv w1 (ob + 1) 9 v1' (fsts acc ++ [s])
  o2 : Own intv w1 (ob + 1) 3 v2 (snds acc)
  apart : ∀ g, v2.ownBlock = some g → v1'.ownBlock ≠ some g
theorem MidP.push2 (h : MidP W ob acc s off v1' v2 wc) (hg : Grew intv (wc.alloc o) (ob + 1) 3 v2 (snds acc ++ [n]) v2' w2) :
    w2.cell? ⟨ob, 0, none⟩ = some v1' ∧ w2.cell? ⟨ob, 1, none⟩ = some v2 ∧ w2.cell? ⟨ob, 2, none⟩ = some (.int .i64 off) ∧ w2.frozen? ⟨ob, 0, none⟩ = false ∧ w2.frozen? ⟨ob, 1, none⟩ = false ∧ ob < w2.heap.size := by
  have k := (Fr.refl wc).alloc o
  have hn := own_ne h.o2
  have c := grew_cell hg.2.1 hn (k.get h.c0)
  exact ⟨c, grew_cell hg.2.1 hn (k.get h.c1), grew_cell hg.2.1 hn (k.get h.c2), grew_free hg.2.1 hn (k.get h.c0) (k.free h.c0 h.f0), grew_free hg.2.1 hn (k.get h.c1) (k.free h.c1 h.f1), lt_of_cell c⟩
end
end Go.Proofs.YtbnaakognnkhdaaDoor
