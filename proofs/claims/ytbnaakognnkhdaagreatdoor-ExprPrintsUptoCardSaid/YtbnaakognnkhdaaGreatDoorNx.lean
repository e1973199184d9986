/- Rows of strings and of numbers; blocks known whole; what is equal up to a place. -/
import Derived.Test.YtbnaakognnkhdaaGreatDoorNa
import Derived.Deep.QuietTactic
import Derived.BigQuiet
import Derived.Laws.Cover1
namespace Go.Proofs.YtbnaakognnkhdaaGreatDoor
open Go.RowKit
set_option linter.unusedSimpArgs false
set_option linter.unusedVariables false

def strv (s : ByteArray) : Value := .string s
def intv (n : Int) : Value := .int .i64 n
def I64 (x : Int) : Prop := -9223372036854775808 ≤ x ∧ x ≤ 9223372036854775807
/-- No string is longer than a string may be; every number is of 64 bits. -/
def SmS (ss : List ByteArray) : Prop := ss.length * 16 ≤ 140737488351232 ∧ ∀ s ∈ ss, s.size ≤ 140737488351232
def SmT (ts : List Int) : Prop := ts.length * 8 ≤ 140737488351232 ∧ ∀ t ∈ ts, I64 t
/-- A block's cells. -/
def BlkC (w : World) (b : Nat) (l : List Value) : Prop := ∀ k v, l[k]? = some v → w.cell? ⟨b, k, none⟩ = some v
theorem BlkC.fr {w w' : World} {b : Nat} {l : List Value} (h : BlkC w b l) (k : Fr w w') : BlkC w' b l := fun i v hv => k.get (h i v hv)
theorem BlkC.alloc {w : World} {t : TypeId} {cs : Array Value} : BlkC (w.alloc (.cells cs t)) w.heap.size cs.toList := by
  intro k v hv
  have hk : cs[k]? = some v := by simpa using hv
  rw [World.cell?_alloc_at _ _ _ _ rfl]; exact hk
theorem BlkC.three {w : World} {b : Nat} {x y z : Value} (h : BlkC w b [x, y, z]) : w.cell? ⟨b, 0, none⟩ = some x ∧ w.cell? ⟨b, 1, none⟩ = some y ∧ w.cell? ⟨b, 2, none⟩ = some z := ⟨h 0 x rfl, h 1 y rfl, h 2 z rfl⟩
def ltB (a b : ByteArray) : Bool := Op.bytesLess a.toList b.toList
theorem bytes_ext {a b : ByteArray} (h : a.toList = b.toList) : a = b := by
  rw [ByteArray.toList_eq, ByteArray.toList_eq] at h
  exact ByteArray.ext (Array.toList_inj.1 h)
theorem str_beq (a b : ByteArray) : (a.toList == b.toList) = decide (a = b) := by
  by_cases h : a = b
  · subst h; simp
  · have : ¬ a.toList = b.toList := fun k => h (bytes_ext k)
    rw [decide_eq_false h]
    simp [this]
/-- The first k things of both lists are the same. -/
def Upto {α : Type} (l m : List α) (k : Nat) : Prop := ∀ (j : Nat) (h1 : j < l.length) (h2 : j < m.length), j < k → l[j] = m[j]
theorem Upto.next {α : Type} {l m : List α} {k : Nat} (h : Upto l m k) (h1 : k < l.length) (h2 : k < m.length) (e : l[k] = m[k]) : Upto l m (k + 1) := fun j a b c => by
  by_cases hj : j = k
  · subst hj; exact e
  · exact h j a b (by omega)
theorem Upto.all {α : Type} {l m : List α} {n : Nat} (h : Upto l m n) (h1 : l.length = n) (h2 : m.length = n) : l = m :=
  List.ext_getElem (by omega) fun j a b => h j a b (by omega)
def RelSm {α : Type} (l m : List α) (n : Nat) (i : Value) (w wr : World) : Prop := ∃ k : Nat, k ≤ n ∧ i = .int .i64 (k : Int) ∧ Upto l m k ∧ Fr w wr
end Go.Proofs.YtbnaakognnkhdaaGreatDoor
