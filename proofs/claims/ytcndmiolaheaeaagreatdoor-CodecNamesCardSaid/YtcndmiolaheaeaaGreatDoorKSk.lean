/- Blocks known whole; a frame that lets one block go; the reader's own block; the listed variables. -/
import Derived.Test.YtcndmiolaheaeaaGreatDoorKSc
namespace Go.Proofs.YtcndmiolaheaeaaGreatDoor
open Go.RowKit
set_option linter.unusedSimpArgs false
set_option linter.unusedVariables false

/-- A block that is known whole. -/
def Bk (w : World) (g : Nat) (t : TypeId) (cs : Array Value) : Prop := w.heap[g]? = some (.cells cs t (0, 0))
section
variable {w w' : World} {g : Nat} {t : TypeId} {cs : Array Value}
theorem Bk.cell (h : Bk w g t cs) (i : Nat) : w.cell? ⟨g, i, none⟩ = cs[i]? := cell_of_row w g i cs t (0, 0) h
theorem Bk.free (h : Bk w g t cs) (i : Nat) : w.frozen? ⟨g, i, none⟩ = false := by
  unfold Bk at h
  simp [World.frozen?, h]
theorem Bk.lt (h : Bk w g t cs) : g < w.heap.size := by
  rcases Nat.lt_or_ge g w.heap.size with hlt | hge
  · exact hlt
  · unfold Bk at h; rw [Array.getElem?_eq_none hge] at h; cases h
theorem Bk.new (w : World) (t : TypeId) (cs : Array Value) : Bk (w.alloc (.cells cs t)) w.heap.size t cs := heap_alloc_new w _
theorem Bk.set (h : Bk w g t cs) (i : Nat) (u : Value) : Bk (w.setCell ⟨g, i, none⟩ u) g t (cs.setIfInBounds i u) := by
  unfold Bk at h ⊢
  simp [World.setCell, Array.getElem?_modify, h]
theorem Bk.far (h : Bk w g t cs) {p : Addr} (hp : g ≠ p.block) (u : Value) : Bk (w.setCell p u) g t cs := (Below.heap_setCell w p u g hp).trans h
theorem Bk.fr (h : Bk w g t cs) (k : Fr w w') : Bk w' g t cs := by
  have hl := h.lt
  unfold Bk at h ⊢
  rw [k.block g hl]; exact h
theorem Bk.alloc (h : Bk w g t cs) (o : Obj) : Bk (w.alloc o) g t cs := h.fr ((Fr.refl w).alloc o)
end
/-- Nothing that was there has turned but the block p. -/
def Wr (p : Nat) (w w' : World) : Prop := w.grownBy w' (some p)
section
variable {p : Nat} {a b c w w' : World}
theorem Wr.refl (p : Nat) (w : World) : Wr p w w := World.grownBy.refl w _
theorem Wr.of (h : Fr a b) : Wr p a b := ⟨h.os, h.tape, h.output, h.size, fun k hk _ => h.block k hk⟩
theorem Wr.size (h : Wr p a b) : a.heap.size ≤ b.heap.size := World.grownBy.size h
theorem Wr.call (h : Wr p a b) (k : Wr p b c) : Wr p a c :=
  ⟨k.os.trans h.os, k.tape.trans h.tape, k.output.trans h.output, Nat.le_trans h.size k.size, fun i hi hn => (World.grownBy.block k i (Nat.lt_of_lt_of_le hi h.size) hn).trans (World.grownBy.block h i hi hn)⟩
theorem Wr.fr (h : Wr p a b) (k : Fr b c) : Wr p a c := h.call (Wr.of k)
theorem Wr.alloc (h : Wr p a b) (o : Obj) : Wr p a (b.alloc o) := h.fr ((Fr.refl b).alloc o)
theorem Wr.drew (h : Wr p a b) : Wr p a b.drew := h.fr (Fr.drew (Fr.refl b))
theorem Wr.drewN (h : Wr p a b) (n : Nat) : Wr p a (b.drewN n) := h.fr (Fr.drewN (Fr.refl b) n)
theorem Wr.setp (h : Wr p a b) (o : Nat) (v : Value) : Wr p a (b.setCell ⟨p, o, none⟩ v) :=
  h.call ⟨rfl, rfl, rfl, by simp, fun k _ hn => Below.heap_setCell b ⟨p, o, none⟩ v k (fun e => hn (congrArg some e))⟩
theorem Wr.setn (h : Wr p a b) {q : Addr} (hq : a.heap.size ≤ q.block) (v : Value) : Wr p a (b.setCell q v) :=
  ⟨h.os, h.tape, h.output, by have := h.size; simp; exact this, fun k hk hn => (Below.heap_setCell b q v k (by omega)).trans (World.grownBy.block h k hk hn)⟩
theorem Wr.blk (h : Wr p a b) {k : Nat} (hk : k < a.heap.size) (hn : k ≠ p) : b.heap[k]? = a.heap[k]? := World.grownBy.block h k hk (fun e => hn (by injection e))
theorem Bk.wr {g : Nat} {t : TypeId} {cs : Array Value} (h : Bk a g t cs) (k : Wr p a b) (hn : g ≠ p) : Bk b g t cs := by
  have hl := h.lt
  unfold Bk at h ⊢
  rw [k.blk hl hn]; exact h
end
section
variable {w w' : World} {p : Nat} {s : ByteArray} {i k : Nat}
end
theorem cell_wr {w w' : World} {p b o : Nat} {v : Value} (k : Wr p w w') (hb : b ≠ p) (h : w.cell? ⟨b, o, none⟩ = some v) : w'.cell? ⟨b, o, none⟩ = some v :=
  (cell_of_heap (k.blk (lt_of_cell h) hb)).trans h
theorem var_keep {P : Program} {w w' : World} {n : String} {g : Nat} (hg : P.globalNamed n = some g) (h : w'.heap[g]? = w.heap[g]?) : w'.var? P n = w.var? P n := by
  unfold World.var?; rw [hg]; simp only [Option.bind_some]; rw [h]
end Go.Proofs.YtcndmiolaheaeaaGreatDoor
