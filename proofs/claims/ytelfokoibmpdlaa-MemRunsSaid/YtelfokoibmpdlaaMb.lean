/- Memory in regions, as it lies in the world. -/
import Derived.Test.YtelfokoibmpdlaaMa
import Derived.Test.YtelfokoibmpdlaaFr
import Derived.Test.YtelfokoibmpdlaaProg
namespace Go.Proofs.Ytelfokoibmpdlaa
open Go.RowKit
set_option linter.unusedSimpArgs false
set_option linter.unusedVariables false

/-- A byte's cell. -/
def u8n (x : Nat) : Value := .int .u8 (x : Int)
/-- Nothing that was there has turned but the blocks of S. -/
structure Kp (S : Nat → Prop) (w w' : World) : Prop where
  os : w'.os = w.os
  tape : w'.tape = w.tape
  output : w'.output = w.output
  size : w.heap.size ≤ w'.heap.size
  block : ∀ b, b < w.heap.size → ¬ S b → w'.heap[b]? = w.heap[b]?
section
variable {S S' : Nat → Prop} {a b c w w' : World}
theorem Kp.of (h : Fr a b) : Kp S a b := ⟨h.os, h.tape, h.output, h.size, fun k hk _ => h.block k hk⟩
theorem Kp.refl (S : Nat → Prop) (w : World) : Kp S w w := Kp.of (Fr.refl w)
theorem Kp.trans (h : Kp S a b) (k : Kp S' b c) (hs : ∀ x, x < a.heap.size → S' x → S x) : Kp S a c :=
  ⟨k.os.trans h.os, k.tape.trans h.tape, k.output.trans h.output, Nat.le_trans h.size k.size, fun x hx hn => (k.block x (Nat.lt_of_lt_of_le hx h.size) fun q => hn (hs x hx q)).trans (h.block x hx hn)⟩
theorem Kp.call (h : Kp S a b) (k : Kp S b c) : Kp S a c := h.trans k fun _ _ q => q
theorem Kp.fr (h : Kp S a b) (k : Fr b c) : Kp S a c := h.call (Kp.of k)
theorem Kp.mono (h : Kp S a b) (hs : ∀ x, x < a.heap.size → S x → S' x) : Kp S' a b := ⟨h.os, h.tape, h.output, h.size, fun x hx hn => h.block x hx fun q => hn (hs x hx q)⟩
theorem Kp.to (h : Kp S a b) (hs : ∀ x, S x → a.heap.size ≤ x) : Fr a b := ⟨h.os, h.tape, h.output, h.size, fun x hx => h.block x hx fun q => by have := hs x q; omega⟩
theorem Kp.alloc (h : Kp S a b) (o : Obj) : Kp S a (b.alloc o) := h.fr ((Fr.refl b).alloc o)
theorem Kp.drew (h : Kp S a b) : Kp S a b.drew := h.fr (Fr.drew (Fr.refl b))
theorem Kp.drewN (h : Kp S a b) (n : Nat) : Kp S a (b.drewN n) := h.fr (Fr.drewN (Fr.refl b) n)
theorem Kp.set (h : Kp S a b) {p : Addr} (hp : S p.block ∨ a.heap.size ≤ p.block) (v : Value) : Kp S a (b.setCell p v) :=
  ⟨h.os, h.tape, h.output, by have := h.size; simpa using this, fun k hk hn => (Below.heap_setCell b p v k (by rintro rfl; rcases hp with q | q; exact hn q; omega)).trans (h.block k hk hn)⟩
theorem heap_cell {b o : Nat} (h : w'.heap[b]? = w.heap[b]?) : w'.cell? ⟨b, o, none⟩ = w.cell? ⟨b, o, none⟩ := by unfold World.cell?; rw [h]
theorem heap_frozen {b o : Nat} (h : w'.heap[b]? = w.heap[b]?) : w'.frozen? ⟨b, o, none⟩ = w.frozen? ⟨b, o, none⟩ := by unfold World.frozen?; rw [h]
theorem Kp.get (h : Kp S w w') {b o : Nat} {v : Value} (hb : ¬ S b) (hc : w.cell? ⟨b, o, none⟩ = some v) : w'.cell? ⟨b, o, none⟩ = some v := (heap_cell (h.block b (lt_of_cell hc) hb)).trans hc
theorem Kp.free (h : Kp S w w') {b o : Nat} {v : Value} (hb : ¬ S b) (hc : w.cell? ⟨b, o, none⟩ = some v) (hf : w.frozen? ⟨b, o, none⟩ = false) : w'.frozen? ⟨b, o, none⟩ = false := (heap_frozen (h.block b (lt_of_cell hc) hb)).trans hf
end
/-- Bytes in a block that may be written. -/
def BytesAt (w : World) (g : Nat) (bs : List Nat) : Prop := ∀ (k x : Nat), bs[k]? = some x → w.cell? ⟨g, k, none⟩ = some (u8n x) ∧ w.frozen? ⟨g, k, none⟩ = false
theorem BytesAt.kp {S : Nat → Prop} {w w' : World} {g : Nat} {bs : List Nat} (h : BytesAt w g bs) (k : Kp S w w') (hn : ¬ S g) : BytesAt w' g bs := fun i x hx =>
  ⟨k.get hn (h i x hx).1, k.free hn (h i x hx).1 (h i x hx).2⟩
/-- Where a memory lies: its object, its row of regions, their bytes' blocks. -/
structure Lo where
  (bm br cr : Nat)
  (A : Option Addr)
  (G C : Nat → Nat)
structure MemAt (w : World) (M : Lo) (l : List Rg) : Prop where
  root : w.cell? ⟨M.bm, 0, none⟩ = some (.slice M.A l.length M.cr)
  cap : l.length ≤ M.cr
  capm : M.cr ≤ maxLen
  addr : 0 < l.length → M.A = some ⟨M.br, 0, none⟩
  row0 : ∀ (i : Nat) (h : i < l.length), w.cell? ⟨M.br, i * 3, none⟩ = some (.int .u64 (l[i].pl : Int))
  row1 : ∀ (i : Nat) (h : i < l.length), w.cell? ⟨M.br, i * 3 + 1, none⟩ = some (.int .i64 l[i].pm)
  row2 : ∀ (i : Nat) (h : i < l.length), w.cell? ⟨M.br, i * 3 + 2, none⟩ = some (.slice (some ⟨M.G i, 0, none⟩) l[i].bs.length (M.C i))
  caps : ∀ (i : Nat) (h : i < l.length), l[i].bs.length ≤ M.C i ∧ M.C i ≤ maxLen
  bytes : ∀ (i : Nat) (h : i < l.length), BytesAt w (M.G i) l[i].bs
  one : ∀ i j, i < l.length → j < l.length → M.G i = M.G j → i = j
  apart : ∀ i, i < l.length → M.G i ≠ M.bm ∧ M.G i ≠ M.br
section
variable {S : Nat → Prop} {w w' : World} {M : Lo} {l : List Rg}
theorem MemAt.kp (h : MemAt w M l) (k : Kp S w w') (h1 : ¬ S M.bm) (h2 : 0 < l.length → ¬ S M.br) (h3 : ∀ i, i < l.length → ¬ S (M.G i)) : MemAt w' M l :=
  ⟨k.get h1 h.root, h.cap, h.capm, h.addr, fun i hi => k.get (h2 (by omega)) (h.row0 i hi), fun i hi => k.get (h2 (by omega)) (h.row1 i hi), fun i hi => k.get (h2 (by omega)) (h.row2 i hi), h.caps, fun i hi => (h.bytes i hi).kp k (h3 i hi), h.one, h.apart⟩
theorem MemAt.fr (h : MemAt w M l) (k : Fr w w') : MemAt w' M l := h.kp (S := fun _ => False) (Kp.of k) id (fun _ => id) fun _ _ => id
theorem MemAt.ltm (h : MemAt w M l) : M.bm < w.heap.size := lt_of_cell h.root
theorem MemAt.ltr (h : MemAt w M l) (hl : 0 < l.length) : M.br < w.heap.size := lt_of_cell (h.row0 0 hl)
theorem MemAt.ltg (h : MemAt w M l) {i : Nat} (hi : i < l.length) (hb : 0 < l[i].bs.length) : M.G i < w.heap.size := lt_of_cell (h.bytes i hi 0 _ (List.getElem?_eq_getElem hb)).1
/-- The rows stay, the bytes turn. -/
theorem MemAt.turn (h : MemAt w M l) {l' : List Rg} (k : Kp S w w') (h1 : ¬ S M.bm) (h2 : 0 < l.length → ¬ S M.br) (hl : l'.length = l.length) (hs : ∀ (i : Nat) (hi : i < l.length) (hi' : i < l'.length), l'[i].pl = l[i].pl ∧ l'[i].pm = l[i].pm ∧ l'[i].bs.length = l[i].bs.length)
    (hb : ∀ (i : Nat) (hi : i < l'.length), BytesAt w' (M.G i) l'[i].bs) : MemAt w' M l' := by
  refine ⟨by rw [hl]; exact k.get h1 h.root, by rw [hl]; exact h.cap, h.capm, fun h0 => h.addr (by omega), fun i hi => ?_, fun i hi => ?_, fun i hi => ?_, fun i hi => ?_, hb, fun i j hi hj e => h.one i j (by omega) (by omega) e, fun i hi => h.apart i (by omega)⟩
  · rw [(hs i (by omega) hi).1]; exact k.get (h2 (by omega)) (h.row0 i (by omega))
  · rw [(hs i (by omega) hi).2.1]; exact k.get (h2 (by omega)) (h.row1 i (by omega))
  · rw [(hs i (by omega) hi).2.2]; exact k.get (h2 (by omega)) (h.row2 i (by omega))
  · rw [(hs i (by omega) hi).2.2]; exact h.caps i (by omega)
end
/-- What the model's & says of permissions. -/
theorem prm_and {pm q : Int} (h0 : 0 ≤ pm) (h1 : pm ≤ 7) (g0 : 0 ≤ q) (g1 : q ≤ 7) : bits BinOp.and IntKind.i64 pm q = ((pm.toNat &&& q.toNat : Nat) : Int) := by
  have key : ∀ a b : Fin 8, bits BinOp.and IntKind.i64 ((a.val : Nat) : Int) ((b.val : Nat) : Int) = ((a.val &&& b.val : Nat) : Int) := by decide
  have := key ⟨pm.toNat, by omega⟩ ⟨q.toNat, by omega⟩
  simp only [Int.toNat_of_nonneg h0, Int.toNat_of_nonneg g0] at this
  exact this
theorem prm_ne {pm q : Int} (h0 : 0 ≤ pm) (h1 : pm ≤ 7) (g0 : 0 ≤ q) (g1 : q ≤ 7) : (bits BinOp.and IntKind.i64 pm q != q) = !prm pm q := by
  rw [prm_and h0 h1 g0 g1]
  unfold prm
  by_cases h : pm.toNat &&& q.toNat = q.toNat
  · rw [h]; simp; omega
  · simp only [decide_eq_false h, Bool.not_false, bne_iff_ne, ne_eq]; omega
end Go.Proofs.Ytelfokoibmpdlaa
