/- What a call leaves in memory, and rows of cells that read as lists; nothing of the program. -/
import GoSem.Claim
import Derived.WalkKit
import Derived.Deep.Draws
import Derived.Laws.OwnMore
import Derived.Maps.AppendAt
import Derived.Deep.AppendLies
import Derived.Lib.Hide
namespace Go.Proofs.YtbnaakognnkhdaaGreatDoor
open Go.RowKit

/-- Nothing that was there has turned. -/
def Fr (w w' : World) : Prop := Below w.heap.size w w'
theorem Fr.refl (w : World) : Fr w w := Below.refl _ _
theorem Fr.alloc {w a : World} (h : Fr w a) (o : Obj) : Fr w (a.alloc o) := Below.alloc h h.size o
theorem Fr.drew {w a : World} (h : Fr w a) : Fr w a.drew := Below.drew h
theorem Fr.drewN {w a : World} (h : Fr w a) (n : Nat) : Fr w (a.drewN n) := Below.trans h ⟨rfl, rfl, rfl, Nat.le_refl _, fun _ _ => rfl⟩
theorem Fr.set {w a : World} (h : Fr w a) {p : Addr} (hp : w.heap.size ≤ p.block) (v : Value) : Fr w (a.setCell p v) := Below.setCell h hp v
theorem Fr.call {w a b : World} (h : Fr w a) (k : Fr a b) : Fr w b := Below.trans h (Below.mono k h.size)
theorem Fr.size {W w1 : World} (hb : Fr W w1) : W.heap.size ≤ w1.heap.size := Below.size hb
theorem Fr.cells {W w1 : World} (hb : Fr W w1) : (∀ b o, b < W.heap.size → w1.cell? ⟨b, o, none⟩ = W.cell? ⟨b, o, none⟩) ∧ (∀ b o, b < W.heap.size → w1.frozen? ⟨b, o, none⟩ = W.frozen? ⟨b, o, none⟩) ∧ W.heap.size ≤ w1.heap.size :=
  ⟨fun b o h => Below.cell hb (p := ⟨b, o, none⟩) h, fun b o h => Below.frozen hb (p := ⟨b, o, none⟩) h, hb.size⟩
theorem lt_of_cell {W : World} {b o : Nat} {v : Value} (h : W.cell? ⟨b, o, none⟩ = some v) : b < W.heap.size := by
  by_cases hb : b < W.heap.size
  · exact hb
  · have e : W.heap[b]? = none := by simp; omega
    simp [World.cell?, e] at h
theorem Fr.get {W w1 : World} (hb : Fr W w1) {b o : Nat} {v : Value} (h : W.cell? ⟨b, o, none⟩ = some v) : w1.cell? ⟨b, o, none⟩ = some v :=
  (hb.cells.1 b o (lt_of_cell h)).trans h
theorem Fr.free {W w1 : World} (hb : Fr W w1) {b o : Nat} {v : Value} (h : W.cell? ⟨b, o, none⟩ = some v) (hf : W.frozen? ⟨b, o, none⟩ = false) : w1.frozen? ⟨b, o, none⟩ = false :=
  (hb.cells.2.1 b o (lt_of_cell h)).trans hf

/-- The row at A reads as the list l, each thing x as the cell f x. -/
def Rd {α : Type} (f : α → Value) (w : World) (A : Option Addr) (l : List α) : Prop :=
  0 < l.length → ∃ g o, A = some ⟨g, o, none⟩ ∧ g < w.heap.size ∧ ∀ (i : Nat) (h : i < l.length), w.cell? ⟨g, o + i, none⟩ = some (f l[i])

section
variable {α : Type} {f : α → Value} {w w' : World} {A : Option Addr} {l : List α}
theorem Rd.nil : Rd f w A ([] : List α) := fun h => absurd h (by simp)
theorem Rd.fr (h : Rd f w A l) (k : Fr w w') : Rd f w' A l := fun hl => by
  obtain ⟨g, o, e, hg, hc⟩ := h hl
  exact ⟨g, o, e, Nat.lt_of_lt_of_le hg k.size, fun i hi => k.get (hc i hi)⟩
theorem Rd.alloc (h : Rd f w A l) (o : Obj) : Rd f (w.alloc o) A l := h.fr ((Fr.refl w).alloc o)
theorem Rd.drew (h : Rd f w A l) : Rd f w.drew A l := h
theorem Rd.drewN (h : Rd f w A l) (n : Nat) : Rd f (w.drewN n) A l := h.fr ((Fr.refl w).drewN n)
/-- A part of it: from k on, n things. -/
theorem Rd.part (h : Rd f w A l) (k n : Nat) (hk : k + n ≤ l.length) {B : Option Addr} (hB : 0 < n → B = A.map (·.add k)) : Rd f w B ((l.drop k).take n) := fun hl => by
  have hl' : 0 < n ∧ k < l.length := by simp at hl; omega
  obtain ⟨g, o, rfl, hg, hc⟩ := h (by omega)
  refine ⟨g, o + k, ?_, hg, fun i hi => ?_⟩
  · rw [hB hl'.1]; unfold Addr.add; by_cases h0 : k = 0 <;> simp [h0]
  · have hi' : i < n ∧ k + i < l.length := by simp at hi; omega
    have := hc (k + i) hi'.2
    simp only [List.getElem_take, List.getElem_drop]
    rw [Nat.add_assoc]; exact this
theorem Rd.rest (h : Rd f w A l) (k : Nat) (hk : k ≤ l.length) {B : Option Addr} (hB : k < l.length → B = A.map (·.add k)) : Rd f w B (l.drop k) := by
  have e : l.drop k = (l.drop k).take (l.length - k) := by rw [List.take_of_length_le (by simp)]
  rw [e]; exact h.part k _ (by omega) (fun h => hB (by omega))
theorem Rd.front (h : Rd f w A l) (n : Nat) (hn : n ≤ l.length) : Rd f w A (l.take n) := by
  have e : l.take n = (l.drop 0).take n := by simp
  rw [e]; exact h.part 0 n (by omega) (fun _ => by cases A <;> simp [Addr.add])
theorem Rd.of_own {base c : Nat} {e : TypeId} (h : w.ownsRow base e 1 (.slice A l.length c) l.length (l.map f)) : Rd f w A l := fun hl => by
  obtain ⟨g, cap, hv, _, hlt⟩ := h.form hl
  have hA : A = some ⟨g, 0, none⟩ := by injection hv
  subst hA
  refine ⟨g, 0, rfl, hlt, fun i hi => ?_⟩
  have := h.cells (g := g) rfl i (f l[i]) (by simp [List.getElem?_eq_getElem hi])
  rw [Nat.zero_add]
  rw [show (⟨g, i, none⟩ : Addr) = (⟨g, 0, none⟩ : Addr).add i by unfold Addr.add; by_cases h0 : i = 0 <;> simp [h0]]
  exact this
/-- The cells that an append or a copy reads. -/
theorem Rd.adds (h : Rd f w A l) (hl : 0 < l.length) : ∃ ad, A = some ad ∧ ∀ j u, (l.map f)[j]? = some u → w.cell? (ad.add j) = some u := by
  obtain ⟨g, o, rfl, _, hc⟩ := h hl
  refine ⟨_, rfl, fun j u hu => ?_⟩
  have hj : j < l.length := by
    have := (List.getElem?_eq_some_iff.1 hu).1
    simpa using this
  have e : u = f l[j] := by simp [List.getElem?_eq_getElem hj] at hu; exact hu.symm
  rw [e, show (⟨g, o, none⟩ : Addr).add j = ⟨g, o + j, none⟩ by unfold Addr.add; by_cases h0 : j = 0 <;> simp [h0]]
  exact hc j hj
end

theorem ret2_eq {x y x' y' : Value} (h : x = x') (k : y = y') : Ending.returned (.tuple #[x, y]) = Ending.returned (.tuple #[x', y']) := by rw [h, k]
theorem ret_eq {x x' : Value} (h : x = x') : Ending.returned x = Ending.returned x' := by rw [h]
theorem ret_int {k : IntKind} {a b : Int} (h : a = b) : Ending.returned (.int k a) = .returned (.int k b) := by rw [h]
theorem ret_bool {a b : Bool} (h : a = b) : Ending.returned (.bool a) = .returned (.bool b) := by rw [h]
end Go.Proofs.YtbnaakognnkhdaaGreatDoor
