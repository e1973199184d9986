/- Trees, and texts read as trees by a machine with a stack: plain; nothing of the program. What a call leaves in memory, and rows of cells that read as lists; nothing of the program. Trees in memory: what rows of cells read as; nothing of the program. The machine's steps; nothing of the program. The tests on one byte. How long a run is; whether all bytes are a text's. Blocks known whole; a frame that lets one block go; the reader's own block; the listed variables. The reader's skip. The reader's quoted. Numbers as digits: plain; nothing of the program. The reader's run. The reader's run: words. Atoi and Itoa, as the reader uses them. The reader's run: digits that Atoi refuses. The reader's run: digits of a number that is out of bounds. The reader's run: digits that no number writes. The reader's run: numbers. What the reader's tree and trees answer, said by the machine. The reader's tree at a list. -/
import Derived.WalkKit
import Derived.Lib.Hide
import GoSem.Claim
import Derived.Deep.Draws
import Derived.Laws.OwnMore
import Derived.Maps.AppendAt
import Derived.Deep.AppendLies
import Derived.Test.YtdipnhghdajplaaGreatDoorProg
import Derived.WalkLawsBesides
import Derived.Deep.QuietTactic
import Derived.BigQuiet
import Derived.Deep.LoopGhost
import Derived.Outline
import Derived.WalkSpells
import Derived.Lib.ItoaNum
import Derived.Lib.AtoiAllCases
import Derived.Lib.AtoiTie
import Derived.Laws.Closers25
import Derived.Deep.RegionWith
import Derived.Lib.AtoiErrMem
import Derived.Sort.Grow
import Derived.KernelRfl
namespace Go.Proofs.YtdipnhghdajplaaGreatDoor
open Go.RowKit
set_option linter.unusedSimpArgs false
set_option linter.unusedVariables false
inductive T where
 | node (k : Int) (s : ByteArray) (n : Int) (ks : List T)
def inB (c : UInt8) : Bool := decide (32 < c.toNat ∧ c.toNat < 127 ∧ c.toNat ≠ 40 ∧ c.toNat ≠ 41 ∧ c.toNat ≠ 34 ∧ c.toNat ≠ 59)
def txB (c : UInt8) : Bool := decide (32 ≤ c.toNat ∧ c.toNat ≤ 126 ∧ c.toNat ≠ 34)
def nuB (c : UInt8) : Bool := decide (c.toNat = 45 ∨ (48 ≤ c.toNat ∧ c.toNat ≤ 57))
inductive Q where
 | closed (m : Nat)
 | wrong (m : Nat)
 | unclosed
def textL : List UInt8 → Nat → Q
 | [], _ => .unclosed
 | c :: r, m => if c.toNat = 10 then .unclosed else if c.toNat = 34 then .closed m else if txB c then textL r (m + 1) else .wrong m
def skN : Bool → List UInt8 → Nat
 | _, [] => 0
 | true, c :: r => if c.toNat = 10 then skN false r + 1 else skN true r + 1
 | false, c :: r => if c.toNat = 32 ∨ c.toNat = 10 then skN false r + 1 else if c.toNat = 59 then skN true r + 1 else 0
def ruN : List UInt8 → Nat
 | [] => 0
 | c :: r => if inB c then ruN r + 1 else 0
def digL : Int → List UInt8 → Option Int
 | a, [] => some a
 | a, c :: r => if 48 ≤ c.toNat ∧ c.toNat ≤ 57 then digL (a * 10 + ((c.toNat : Int) - 48)) r else none
def magL (neg : Bool) (d : List UInt8) : Option Int :=
 match d with
 | [] => none
 | c :: r => if 18 < d.length ∨ (c.toNat = 48 ∧ (neg = true ∨ r ≠ [])) then none else (digL 0 d).map (fun n => if neg then -n else n)
def numL : List UInt8 → Option Int
 | [] => none
 | c :: r => if c.toNat = 45 then magL true r else magL false (c :: r)
def leaf (c : UInt8) (r : List UInt8) : Nat ⊕ (T × Nat) :=
 if c.toNat = 34 then
   match textL r 0 with
   | .closed m => .inr (.node 3 ⟨(r.take m).toArray⟩ 0 [], m + 2)
   | .wrong m => .inl (m + 1)
   | .unclosed => .inl 0
 else if inB c then
   if nuB c then
     match numL ((c :: r).take (ruN (c :: r))) with
     | some n => .inr (.node 2 ⟨#[]⟩ n [], ruN (c :: r))
     | none => .inl 0
   else .inr (.node 1 ⟨((c :: r).take (ruN (c :: r))).toArray⟩ 0 [], ruN (c :: r))
 else .inl 0
inductive Res where
 | ok (l : List T)
 | err (at_ : Nat) (e : Int)
def go : Nat → List UInt8 → Nat → List (List T) → Nat → Res
 | 0, _, i, _, _ => .err i 0
 | f + 1, L, i, st, k =>
   match L.drop (i + skN false (L.drop i)) with
   | [] => match st with
     | [top] => .ok top
     | _ => .err (i + skN false (L.drop i)) 31
   | c :: r =>
     if c.toNat = 41 then
       match st with
       | cur :: par :: rest => go f L (i + skN false (L.drop i) + 1) ((par ++ [.node 4 ⟨#[]⟩ 0 cur]) :: rest) k
       | _ => .err (i + skN false (L.drop i)) 31
     else if c.toNat = 40 then
       if 65536 < k + 1 ∨ 32 < st.length then .err (i + skN false (L.drop i)) 33
       else go f L (i + skN false (L.drop i) + 1) ([] :: st) (k + 1)
     else match leaf c r with
       | .inl d => .err (i + skN false (L.drop i) + d) 31
       | .inr (t, n) => if 65536 < k + 1 then .err (i + skN false (L.drop i)) 33
         else match st with
           | cur :: rest => go f L (i + skN false (L.drop i) + n) ((cur ++ [t]) :: rest) (k + 1)
           | [] => .err (i + skN false (L.drop i)) 0
def run (L : List UInt8) (i : Nat) (st : List (List T)) (k : Nat) : Res := go (L.length + 1 - i) L i st k
theorem textL_le {r : List UInt8} {a m : Nat} (h : textL r a = .closed m) : a ≤ m ∧ m - a < r.length := by
 induction r generalizing a with
 | nil => cases h
 | cons c r ih =>
   unfold textL at h
   split at h
   · cases h
   · split at h
     · injection h with h; subst h; simp
     · split at h
       · have := ih h; simp; omega
       · cases h
theorem ruN_le (l : List UInt8) : ruN l ≤ l.length := by
 induction l with
 | nil => simp [ruN]
 | cons c r ih => unfold ruN; split <;> simp <;> omega
theorem ruN_pos {c : UInt8} {r : List UInt8} (h : inB c = true) : 0 < ruN (c :: r) := by unfold ruN; rw [if_pos h]; omega
theorem skN_le (b : Bool) (l : List UInt8) : skN b l ≤ l.length := by
 induction l generalizing b with
 | nil => cases b <;> simp [skN]
 | cons c r ih =>
   have h1 := ih true
   have h2 := ih false
   cases b
   · unfold skN; split
     · simp; omega
     · split <;> simp; omega
   · unfold skN; split <;> simp <;> omega
theorem leaf_len {c : UInt8} {r : List UInt8} {t : T} {n : Nat} (h : leaf c r = .inr (t, n)) : 0 < n ∧ n ≤ r.length + 1 := by
 unfold leaf at h
 split at h
 · split at h
   · next m e => injection h with h; injection h with _ h; subst h; have := textL_le e; omega
   · cases h
   · cases h
 · split at h
   · next hb =>
     have h1 := ruN_pos (r := r) hb
     have h2 := ruN_le (c :: r)
     simp at h2
     split at h
     · split at h
       · injection h with h; injection h with _ h; omega
       · cases h
     · injection h with h; injection h with _ h; omega
   · cases h
end Go.Proofs.YtdipnhghdajplaaGreatDoor
namespace Go.Proofs.YtdipnhghdajplaaGreatDoor
open Go.RowKit
def Fr (w w' : World) : Prop := Below w.heap.size w w'
theorem Fr.refl (w : World) : Fr w w := Below.refl _ _
theorem Fr.alloc {w a : World} (h : Fr w a) (o : Obj) : Fr w (a.alloc o) := Below.alloc h h.size o
theorem Fr.drew {w a : World} (h : Fr w a) : Fr w a.drew := Below.drew h
theorem Fr.drewN {w a : World} (h : Fr w a) (n : Nat) : Fr w (a.drewN n) := Below.trans h ⟨rfl, rfl, rfl, Nat.le_refl _, fun _ _ => rfl⟩
theorem Fr.set {w a : World} (h : Fr w a) {p : Addr} (hp : w.heap.size ≤ p.block) (v : Value) : Fr w (a.setCell p v) := Below.setCell h hp v
theorem Fr.call {w a b : World} (h : Fr w a) (k : Fr a b) : Fr w b := Below.trans h (Below.mono k h.size)
theorem Fr.size {W w1 : World} (hb : Fr W w1) : W.heap.size ≤ w1.heap.size := Below.size hb
theorem Fr.cells {W w1 : World} (hb : Fr W w1) : (∀ b o, b < W.heap.size → w1.cell? ⟨b, o, none⟩ = W.cell? ⟨b, o, none⟩) ∧ (∀ b o, b < W.heap.size → w1.frozen? ⟨b, o, none⟩ = W.frozen? ⟨b, o, none⟩) ∧ W.heap.size ≤ w1.heap.size :=
 ⟨fun b o h => Below.cell hb (p := ⟨b, o, none⟩) h, fun b o h => Below.frozen hb (p := ⟨b, o, none⟩) h, hb.size⟩
theorem lt_of_cell {W : World} {b o : Nat} {v : Value} (h : W.cell? ⟨b, o, none⟩ = some v) : b < W.heap.size := by
 by_cases hb : b < W.heap.size
 · exact hb
 · have e : W.heap[b]? = none := by simp; omega
   simp [World.cell?, e] at h
theorem Fr.get {W w1 : World} (hb : Fr W w1) {b o : Nat} {v : Value} (h : W.cell? ⟨b, o, none⟩ = some v) : w1.cell? ⟨b, o, none⟩ = some v :=
 (hb.cells.1 b o (lt_of_cell h)).trans h
theorem Fr.free {W w1 : World} (hb : Fr W w1) {b o : Nat} {v : Value} (h : W.cell? ⟨b, o, none⟩ = some v) (hf : W.frozen? ⟨b, o, none⟩ = false) : w1.frozen? ⟨b, o, none⟩ = false :=
 (hb.cells.2.1 b o (lt_of_cell h)).trans hf
section
variable {α : Type} {f : α → Value} {w w' : World} {A : Option Addr} {l : List α}
end
theorem ret_eq {x x' : Value} (h : x = x') : Ending.returned x = Ending.returned x' := by rw [h]
theorem ret_int {k : IntKind} {a b : Int} (h : a = b) : Ending.returned (.int k a) = .returned (.int k b) := by rw [h]
theorem ret_bool {a b : Bool} (h : a = b) : Ending.returned (.bool a) = .returned (.bool b) := by rw [h]
end Go.Proofs.YtdipnhghdajplaaGreatDoor
namespace Go.Proofs.YtdipnhghdajplaaGreatDoor
open Go.RowKit
set_option linter.unusedSimpArgs false
set_option linter.unusedVariables false
mutual
def RdL (w : World) (F : Nat → Prop) : Option Addr → List T → Prop
 | _, [] => True
 | A, t :: r => ∃ b o, A = some ⟨b, o, none⟩ ∧ F b ∧ RdT w F b o t ∧ RdL w F (some ⟨b, o + 4, none⟩) r
def RdT (w : World) (F : Nat → Prop) : Nat → Nat → T → Prop
 | b, o, .node k s n ks => ∃ A c, ks.length ≤ c ∧ w.cell? ⟨b, o, none⟩ = some (.int .i64 k) ∧ w.cell? ⟨b, o + 1, none⟩ = some (.string s) ∧ w.cell? ⟨b, o + 2, none⟩ = some (.int .i64 n) ∧
     w.cell? ⟨b, o + 3, none⟩ = some (.slice A ks.length c) ∧ RdL w F A ks
end
def Fits (w : World) (F : Nat → Prop) : List T → List Value → Prop
 | [], vs => vs = []
 | .node k s n ks :: r, vs => ∃ A c vs', vs = .int .i64 k :: .string s :: .int .i64 n :: .slice A ks.length c :: vs' ∧ ks.length ≤ c ∧ RdL w F A ks ∧ Fits w F r vs'
theorem cell_of_heap {w w' : World} {b o : Nat} (h : w'.heap[b]? = w.heap[b]?) : w'.cell? ⟨b, o, none⟩ = w.cell? ⟨b, o, none⟩ := by
 unfold World.cell?; rw [h]
mutual
theorem RdL.mono {w w' : World} {F F' : Nat → Prop} (hF : ∀ b, F b → F' b) (hw : ∀ b, F b → w'.heap[b]? = w.heap[b]?) : ∀ {l : List T} {A : Option Addr}, RdL w F A l → RdL w' F' A l
 | [], _, _ => by unfold RdL; trivial
 | t :: r, A, h => by
   unfold RdL at h ⊢
   obtain ⟨b, o, e, hb, ht, hr⟩ := h
   exact ⟨b, o, e, hF b hb, RdT.mono hF hw hb ht, RdL.mono hF hw hr⟩
theorem RdT.mono {w w' : World} {F F' : Nat → Prop} (hF : ∀ b, F b → F' b) (hw : ∀ b, F b → w'.heap[b]? = w.heap[b]?) : ∀ {t : T} {b o : Nat}, F b → RdT w F b o t → RdT w' F' b o t
 | .node k s n ks, b, o, hb, h => by
   unfold RdT at h ⊢
   obtain ⟨A, c, hc, h0, h1, h2, h3, hk⟩ := h
   exact ⟨A, c, hc, (cell_of_heap (hw b hb)).trans h0, (cell_of_heap (hw b hb)).trans h1, (cell_of_heap (hw b hb)).trans h2, (cell_of_heap (hw b hb)).trans h3, RdL.mono hF hw hk⟩
end
theorem Fits.mono {w w' : World} {F F' : Nat → Prop} (hF : ∀ b, F b → F' b) (hw : ∀ b, F b → w'.heap[b]? = w.heap[b]?) : ∀ {l : List T} {vs : List Value}, Fits w F l vs → Fits w' F' l vs
 | [], _, h => h
 | .node k s n ks :: r, vs, h => by
   unfold Fits at h ⊢
   obtain ⟨A, c, vs', e, hc, hk, hr⟩ := h
   exact ⟨A, c, vs', e, hc, hk.mono hF hw, Fits.mono hF hw hr⟩
theorem Fits.snoc {w : World} {F : Nat → Prop} {k n : Int} {s : ByteArray} {ks : List T} {A : Option Addr} {c : Nat} (hc : ks.length ≤ c) (hk : RdL w F A ks) :
   ∀ {l : List T} {vs : List Value}, Fits w F l vs → Fits w F (l ++ [.node k s n ks]) (vs ++ [.int .i64 k, .string s, .int .i64 n, .slice A ks.length c])
 | [], vs, h => by
   unfold Fits at h; subst h
   simp only [List.nil_append]
   unfold Fits
   exact ⟨A, c, [], rfl, hc, hk, by unfold Fits; rfl⟩
 | .node k' s' n' ks' :: r, vs, h => by
   unfold Fits at h
   obtain ⟨A', c', vs', e, hc', hk', hr⟩ := h
   subst e
   simp only [List.cons_append]
   unfold Fits
   exact ⟨A', c', _, rfl, hc', hk', Fits.snoc hc hk hr⟩
theorem RdL.of_fits {w : World} {F : Nat → Prop} {b : Nat} (hb : F b) : ∀ {l : List T} {vs : List Value} {o : Nat}, Fits w F l vs → (∀ i u, vs[i]? = some u → w.cell? ⟨b, o + i, none⟩ = some u) → RdL w F (some ⟨b, o, none⟩) l
 | [], _, _, _, _ => by unfold RdL; trivial
 | .node k s n ks :: r, vs, o, h, hv => by
   unfold Fits at h
   obtain ⟨A, c, vs', e, hc, hk, hr⟩ := h
   subst e
   unfold RdL RdT
   refine ⟨b, o, rfl, hb, ⟨A, c, hc, hv 0 _ rfl, hv 1 _ rfl, hv 2 _ rfl, hv 3 _ rfl, hk⟩, RdL.of_fits hb hr fun i u hu => ?_⟩
   have := hv (i + 4) u (by simpa using hu)
   rwa [show o + (i + 4) = o + 4 + i by omega] at this
end Go.Proofs.YtdipnhghdajplaaGreatDoor
namespace Go.Proofs.YtdipnhghdajplaaGreatDoor
open Go.RowKit
set_option linter.unusedSimpArgs false
set_option linter.unusedVariables false
section
variable {L : List UInt8} {j k : Nat} {c : UInt8} {r : List UInt8}
theorem drop_len (hd : L.drop j = c :: r) : j < L.length := by
 have := congrArg List.length hd
 simp at this; omega
def Nb (c : UInt8) : Prop := ¬ (c.toNat = 32 ∨ c.toNat = 10) ∧ ¬ c.toNat = 59
theorem skN_nb (h : Nb c) : skN false (c :: r) = 0 := by rw [skN, if_neg h.1, if_neg h.2]
end
end Go.Proofs.YtdipnhghdajplaaGreatDoor
namespace Go.Proofs.YtdipnhghdajplaaGreatDoor
open Go.RowKit
set_option linter.unusedSimpArgs false
set_option linter.unusedVariables false
theorem inB_int {c : UInt8} {m : Int} (h : (c.toNat : Int) = m) : inB c = decide (32 < m ∧ m < 127 ∧ m ≠ 40 ∧ m ≠ 41 ∧ m ≠ 34 ∧ m ≠ 59) := by unfold inB; exact decide_eq_decide.2 (by omega)
set_option maxHeartbeats 1600000 in
theorem in_any (c : UInt8) (w : World) : Calls Tryz.prog 118 #[.int .u8 (c.toNat : Int)] w fun e w' => e = .returned (.bool (inB c)) ∧ w = w' := by
 have hc := c.toNat_lt
 obtain ⟨m, hm⟩ : ∃ m : Int, (c.toNat : Int) = m := ⟨_, rfl⟩
 rw [inB_int hm, hm]
 have h0 : 0 ≤ m := by omega
 have h1 : m < 256 := by omega
 clear hm hc
 generalize hq : decide (32 < m ∧ m < 127 ∧ m ≠ 40 ∧ m ≠ 41 ∧ m ≠ 34 ∧ m ≠ 59) = q
 have HQ := Lib.hid hq
 clear hq
 go_enter Tryz.func118, Tryz.ntmps118
 go_wp2
 all_goals
   go_ret
   exact ⟨ret_bool (by rw [← HQ.out, Bool.eq_iff_iff]; simp; try omega), rfl⟩
end Go.Proofs.YtdipnhghdajplaaGreatDoor
namespace Go.Proofs.YtdipnhghdajplaaGreatDoor
open Go.RowKit
set_option linter.unusedSimpArgs false
set_option linter.unusedVariables false
theorem drop_at (s : ByteArray) (k : Nat) (h : k < s.size) : s.data.toList.drop k = s[k] :: s.data.toList.drop (k + 1) := by
 have h2 : k < s.data.toList.length := by simpa using h
 rw [List.drop_eq_getElem_cons h2]; rfl
theorem drop_all (s : ByteArray) : s.data.toList.drop s.size = [] := by simp
end Go.Proofs.YtdipnhghdajplaaGreatDoor
namespace Go.Proofs.YtdipnhghdajplaaGreatDoor
open Go.RowKit
set_option linter.unusedSimpArgs false
set_option linter.unusedVariables false
def Bk (w : World) (g : Nat) (t : TypeId) (cs : Array Value) : Prop := w.heap[g]? = some (.cells cs t (0, 0))
section
variable {w w' : World} {g : Nat} {t : TypeId} {cs : Array Value}
theorem Bk.cell (h : Bk w g t cs) (i : Nat) : w.cell? ⟨g, i, none⟩ = cs[i]? := cell_of_row w g i cs t (0, 0) h
theorem Bk.free (h : Bk w g t cs) (i : Nat) : w.frozen? ⟨g, i, none⟩ = false := by
 unfold Bk at h
 simp [World.frozen?, h]
theorem Bk.lt (h : Bk w g t cs) : g < w.heap.size := by
 rcases Nat.lt_or_ge g w.heap.size with hlt | hge
 · exact hlt
 · unfold Bk at h; rw [Array.getElem?_eq_none hge] at h; cases h
theorem Bk.new (w : World) (t : TypeId) (cs : Array Value) : Bk (w.alloc (.cells cs t)) w.heap.size t cs := heap_alloc_new w _
theorem Bk.set (h : Bk w g t cs) (i : Nat) (u : Value) : Bk (w.setCell ⟨g, i, none⟩ u) g t (cs.setIfInBounds i u) := by
 unfold Bk at h ⊢
 simp [World.setCell, Array.getElem?_modify, h]
theorem Bk.fr (h : Bk w g t cs) (k : Fr w w') : Bk w' g t cs := by
 have hl := h.lt
 unfold Bk at h ⊢
 rw [k.block g hl]; exact h
theorem Bk.alloc (h : Bk w g t cs) (o : Obj) : Bk (w.alloc o) g t cs := h.fr ((Fr.refl w).alloc o)
end
def Wr (p : Nat) (w w' : World) : Prop := w.grownBy w' (some p)
section
variable {p : Nat} {a b c w w' : World}
theorem Wr.refl (p : Nat) (w : World) : Wr p w w := World.grownBy.refl w _
theorem Wr.size (h : Wr p a b) : a.heap.size ≤ b.heap.size := World.grownBy.size h
theorem Wr.call (h : Wr p a b) (k : Wr p b c) : Wr p a c :=
 ⟨k.os.trans h.os, k.tape.trans h.tape, k.output.trans h.output, Nat.le_trans h.size k.size, fun i hi hn => (World.grownBy.block k i (Nat.lt_of_lt_of_le hi h.size) hn).trans (World.grownBy.block h i hi hn)⟩
theorem Wr.setp (h : Wr p a b) (o : Nat) (v : Value) : Wr p a (b.setCell ⟨p, o, none⟩ v) :=
 h.call ⟨rfl, rfl, rfl, by simp, fun k _ hn => Below.heap_setCell b ⟨p, o, none⟩ v k (fun e => hn (congrArg some e))⟩
end
section
variable {w w' : World} {p : Nat} {s : ByteArray} {i k : Nat}
end
end Go.Proofs.YtdipnhghdajplaaGreatDoor
namespace Go.Proofs.YtdipnhghdajplaaGreatDoor
open Go.RowKit
set_option linter.unusedSimpArgs false
set_option linter.unusedVariables false
end Go.Proofs.YtdipnhghdajplaaGreatDoor
namespace Go.Proofs.YtdipnhghdajplaaGreatDoor
open Go.RowKit
set_option linter.unusedSimpArgs false
set_option linter.unusedVariables false
theorem slice_at (s : ByteArray) (a b : Nat) (h1 : a ≤ b) (h2 : b ≤ s.size) (w : World) : (Instr.slice 9 (.string s) (some (.int .i64 (a : Int))) (some (.int .i64 (b : Int))) none).run Tryz.prog w = .ok (.string (s.extract a b)) w := by
 have h := run_slice_string (P := Tryz.prog) w 9 s .i64 .i64 (a : Int) (b : Int) Tryz.underlying9 (by omega) (by omega) (by omega)
 simpa using h
def QuRel (s : ByteArray) (j : Nat) (i : Value) : Prop := ∃ m : Nat, j + 1 + m ≤ s.size ∧ i = .int .i64 ((j + 1 + m : Nat) : Int) ∧ textL (s.data.toList.drop (j + 1)) 0 = textL (s.data.toList.drop (j + 1 + m)) m
theorem textL_nil (m : Nat) : textL [] m = .unclosed := rfl
theorem textL_cons (c : UInt8) (r : List UInt8) (m : Nat) : textL (c :: r) m = if c.toNat = 10 then .unclosed else if c.toNat = 34 then .closed m else if txB c then textL r (m + 1) else .wrong m := rfl
end Go.Proofs.YtdipnhghdajplaaGreatDoor
namespace Go.Proofs.YtdipnhghdajplaaGreatDoor
open Go.RowKit
set_option linter.unusedSimpArgs false
set_option linter.unusedVariables false
theorem snoc_ind {α : Type} {P : List α → Prop} (h0 : P []) (h1 : ∀ l a, P l → P (l ++ [a])) (l : List α) : P l := by
 have h : ∀ r : List α, P r.reverse := by
   intro r
   induction r with
   | nil => exact h0
   | cons a r ih => rw [List.reverse_cons]; exact h1 _ _ ih
 have := h l.reverse
 rwa [List.reverse_reverse] at this
theorem digL_nil (a : Int) : digL a [] = some a := rfl
theorem digL_cons (a : Int) (c : UInt8) (r : List UInt8) : digL a (c :: r) = if 48 ≤ c.toNat ∧ c.toNat ≤ 57 then digL (a * 10 + ((c.toNat : Int) - 48)) r else none := rfl
theorem digL_snoc (l : List UInt8) (c : UInt8) : ∀ a : Int, digL a (l ++ [c]) = (digL a l).bind fun v => if 48 ≤ c.toNat ∧ c.toNat ≤ 57 then some (v * 10 + ((c.toNat : Int) - 48)) else none := by
 induction l with
 | nil => intro a; rw [List.nil_append, digL_cons, digL_nil, digL_nil]; rfl
 | cons d r ih =>
   intro a
   rw [List.cons_append, digL_cons, digL_cons]
   by_cases h : 48 ≤ d.toNat ∧ d.toNat ≤ 57
   · rw [if_pos h, if_pos h, ih]
   · rw [if_neg h, if_neg h]; rfl
theorem digL_some {l : List UInt8} {v : Int} (h : digL 0 l = some v) : 0 ≤ v := by
 induction l using snoc_ind generalizing v with
 | h0 => injection h with h; omega
 | h1 l c ih =>
   rw [digL_snoc] at h
   cases hl : digL 0 l with
   | none => rw [hl] at h; cases h
   | some a =>
     have := ih hl
     rw [hl] at h
     simp only [Option.bind_some] at h
     split at h
     · injection h with h; omega
     · cases h
theorem digL_lt {l : List UInt8} {v : Int} (h : digL 0 l = some v) : v < 10 ^ l.length := by
 induction l using snoc_ind generalizing v with
 | h0 => injection h with h; subst h; simp
 | h1 l c ih =>
   rw [digL_snoc] at h
   cases hl : digL 0 l with
   | none => rw [hl] at h; cases h
   | some a =>
     have := ih hl
     rw [hl] at h
     simp only [Option.bind_some] at h
     split at h
     · injection h with h
       rw [List.length_append, List.length_singleton, Int.pow_succ]
       omega
     · cases h
end Go.Proofs.YtdipnhghdajplaaGreatDoor
namespace Go.Proofs.YtdipnhghdajplaaGreatDoor
open Go.RowKit
set_option linter.unusedSimpArgs false
set_option linter.unusedVariables false
theorem sub_list (s : ByteArray) (j n : Nat) : (s.extract j (j + n)).data.toList = (s.data.toList.drop j).take n := by simp
end Go.Proofs.YtdipnhghdajplaaGreatDoor
namespace Go.Proofs.YtdipnhghdajplaaGreatDoor
open Go.RowKit
set_option linter.unusedSimpArgs false
set_option linter.unusedVariables false
end Go.Proofs.YtdipnhghdajplaaGreatDoor
namespace Go.Proofs.YtdipnhghdajplaaGreatDoor
open Go.RowKit
set_option linter.unusedSimpArgs false
set_option linter.unusedVariables false
end Go.Proofs.YtdipnhghdajplaaGreatDoor
namespace Go.Proofs.YtdipnhghdajplaaGreatDoor
open Go.RowKit
set_option linter.unusedSimpArgs false
set_option linter.unusedVariables false
end Go.Proofs.YtdipnhghdajplaaGreatDoor
namespace Go.Proofs.YtdipnhghdajplaaGreatDoor
open Go.RowKit
set_option linter.unusedSimpArgs false
set_option linter.unusedVariables false
end Go.Proofs.YtdipnhghdajplaaGreatDoor
namespace Go.Proofs.YtdipnhghdajplaaGreatDoor
open Go.RowKit
set_option linter.unusedSimpArgs false
set_option linter.unusedVariables false
end Go.Proofs.YtdipnhghdajplaaGreatDoor
namespace Go.Proofs.YtdipnhghdajplaaGreatDoor
open Go.RowKit
set_option linter.unusedSimpArgs false
set_option linter.unusedVariables false
end Go.Proofs.YtdipnhghdajplaaGreatDoor
namespace Go.Proofs.YtdipnhghdajplaaGreatDoor
open Go.RowKit
set_option linter.unusedSimpArgs false
set_option linter.unusedVariables false
def New (w w' : World) (b : Nat) : Prop := w.heap.size ≤ b ∧ b < w'.heap.size
end Go.Proofs.YtdipnhghdajplaaGreatDoor
namespace Go.Proofs.YtdipnhghdajplaaGreatDoor
open Go.RowKit
set_option linter.unusedSimpArgs false
set_option linter.unusedVariables false
end Go.Proofs.YtdipnhghdajplaaGreatDoor
namespace Go.Proofs.YtdipnhghdajplaaGreatDoor
open Go.RowKit
set_option linter.unusedSimpArgs false
set_option linter.unusedVariables false
structure Tk where
 pos : Nat
 kind : Int
 num : Int
 wrong : Nat
 word : ByteArray
def tokT (j : Nat) : T → Tk
 | .node k s n _ => ⟨j, k, n, 0, s⟩
def toks : Nat → List UInt8 → Nat → List Tk
 | 0, _, _ => []
 | f + 1, L, i =>
   match L.drop (i + skN false (L.drop i)) with
   | [] => []
   | c :: r =>
     if c.toNat = 41 then ⟨i + skN false (L.drop i), 5, 0, 0, ⟨#[]⟩⟩ :: toks f L (i + skN false (L.drop i) + 1)
     else if c.toNat = 40 then ⟨i + skN false (L.drop i), 4, 0, 0, ⟨#[]⟩⟩ :: toks f L (i + skN false (L.drop i) + 1)
     else match leaf c r with
       | .inl d => [⟨i + skN false (L.drop i), 6, 0, i + skN false (L.drop i) + d, ⟨#[]⟩⟩]
       | .inr (t, n) => tokT (i + skN false (L.drop i)) t :: toks f L (i + skN false (L.drop i) + n)
def tokens (L : List UInt8) (i : Nat) : List Tk := toks (L.length + 1 - i) L i
def pgo (z : Nat) : List Tk → List (List T) → Nat → Res
 | [], st, _ => match st with
   | [top] => .ok top
   | _ => .err z 31
 | t :: r, st, k =>
   if t.kind = 6 then .err t.wrong 31
   else if t.kind = 5 then
     match st with
     | cur :: par :: rest => pgo z r ((par ++ [.node 4 ⟨#[]⟩ 0 cur]) :: rest) k
     | _ => .err t.pos 31
   else if 65536 < k + 1 ∨ (t.kind = 4 ∧ 32 < st.length) then .err t.pos 33
   else if t.kind = 4 then pgo z r ([] :: st) (k + 1)
   else match st with
     | cur :: rest => pgo z r ((cur ++ [.node t.kind t.word t.num []]) :: rest) (k + 1)
     | [] => .err t.pos 0
theorem leaf_kd {c : UInt8} {r : List UInt8} {k m : Int} {s : ByteArray} {ks : List T} {n : Nat} (h : leaf c r = .inr (.node k s m ks, n)) : (k = 1 ∨ k = 2 ∨ k = 3) ∧ ks = [] := by
 unfold leaf at h
 split at h
 · split at h
   · injection h with h; injection h with h _; injection h with h1 h2 h3 h4; exact ⟨.inr (.inr h1.symm), h4.symm⟩
   · cases h
   · cases h
 · split at h
   · split at h
     · split at h
       · injection h with h; injection h with h _; injection h with h1 h2 h3 h4; exact ⟨.inr (.inl h1.symm), h4.symm⟩
       · cases h
     · injection h with h; injection h with h _; injection h with h1 h2 h3 h4; exact ⟨.inl h1.symm, h4.symm⟩
   · cases h
theorem drop_nil_le {L : List UInt8} {j : Nat} (hj : j ≤ L.length) (h : L.drop j = []) : j = L.length := by
 have := congrArg List.length h
 simp at this; omega
theorem pgo_go (f : Nat) : ∀ (L : List UInt8) (i : Nat) (st : List (List T)) (k : Nat), L.length < i + f → i ≤ L.length → st ≠ [] → pgo L.length (toks f L i) st k = go f L i st k := by
 induction f with
 | zero => intro L i st k h h2; omega
 | succ f ih =>
   intro L i st k h h2 hst
   have hs := skN_le false (L.drop i)
   simp at hs
   unfold toks go
   generalize hj : i + skN false (L.drop i) = j at *
   cases hd : L.drop j with
   | nil =>
     obtain rfl := drop_nil_le (by omega) hd
     unfold pgo
     rcases st with _ | ⟨a, _ | ⟨b, rest⟩⟩
     · exact absurd rfl hst
     · rfl
     · rfl
   | cons c r =>
     have hjl : j < L.length := drop_len hd
     have hrl : r.length = L.length - (j + 1) := by
       have := congrArg List.length hd; simp at this; omega
     simp only
     by_cases h41 : c.toNat = 41
     · rw [if_pos h41, if_pos h41]
       unfold pgo
       rw [if_neg (by simp), if_pos rfl]
       rcases st with _ | ⟨a, _ | ⟨b, rest⟩⟩
       · rfl
       · rfl
       · exact ih L (j + 1) _ _ (by omega) (by omega) (by simp)
     · rw [if_neg h41, if_neg h41]
       by_cases h40 : c.toNat = 40
       · rw [if_pos h40, if_pos h40]
         unfold pgo
         rw [if_neg (by simp), if_neg (by simp)]
         simp only [true_and, if_true]
         by_cases hm : 65536 < k + 1 ∨ 32 < st.length
         · rw [if_pos hm, if_pos hm]
         · rw [if_neg hm, if_neg hm]
           exact ih L (j + 1) _ _ (by omega) (by omega) (by simp)
       · rw [if_neg h40, if_neg h40]
         rcases hl : leaf c r with d | ⟨⟨kd, sd, nd, ks⟩, n⟩
         · simp only
           unfold pgo
           rw [if_pos rfl]
         · obtain ⟨hk, rfl⟩ := leaf_kd hl
           have hn := leaf_len hl
           simp only
           unfold pgo tokT
           simp only
           rw [if_neg (by omega), if_neg (by omega)]
           have e4 : ¬ kd = 4 := by omega
           simp only [e4, false_and, or_false, if_false]
           by_cases hm : 65536 < k + 1
           · rw [if_pos hm, if_pos hm]
           · rw [if_neg hm, if_neg hm]
             rcases st with _ | ⟨a, rest⟩
             · exact absurd rfl hst
             · exact ih L (j + n) _ _ (by omega) (by omega) (by simp)
theorem pgo_run (L : List UInt8) (st : List (List T)) (k : Nat) (hst : st ≠ []) : pgo L.length (tokens L 0) st k = run L 0 st k := pgo_go _ L 0 st k (by omega) (by omega) hst
theorem toks_fuel (f : Nat) : ∀ (f' : Nat) (L : List UInt8) (i : Nat), L.length < i + f → L.length < i + f' → i ≤ L.length → toks f L i = toks f' L i := by
 induction f with
 | zero => intro f' L i h _ h2; omega
 | succ f ih =>
   intro f' L i h h' h2
   obtain ⟨g, rfl⟩ : ∃ g, f' = g + 1 := ⟨f' - 1, by omega⟩
   have hs := skN_le false (L.drop i)
   simp at hs
   unfold toks
   generalize hj : i + skN false (L.drop i) = j at *
   cases hd : L.drop j with
   | nil => rfl
   | cons c r =>
     have hjl : j < L.length := drop_len hd
     have hrl : r.length = L.length - (j + 1) := by
       have := congrArg List.length hd; simp at this; omega
     simp only
     rcases hl : leaf c r with d | ⟨⟨kd, sd, nd, ks⟩, n⟩
     · rw [ih g L (j + 1) (by omega) (by omega) (by omega)]
     · have hn := leaf_len hl
       rw [ih g L (j + 1) (by omega) (by omega) (by omega)]
       simp only
       rw [ih g L (j + n) (by omega) (by omega) (by omega)]
theorem tokens_skip {L : List UInt8} {i j : Nat} (hi : i ≤ L.length) (hj : j ≤ L.length) (h : i + skN false (L.drop i) = j + skN false (L.drop j)) : tokens L i = tokens L j := by
 unfold tokens
 obtain ⟨a, ha⟩ : ∃ a, L.length + 1 - i = a + 1 := ⟨L.length - i, by omega⟩
 obtain ⟨b, hb⟩ : ∃ b, L.length + 1 - j = b + 1 := ⟨L.length - j, by omega⟩
 have hs := skN_le false (L.drop i)
 simp at hs
 rw [ha, hb]
 unfold toks
 rw [← h]
 generalize hjj : i + skN false (L.drop i) = m at *
 cases hd : L.drop m with
 | nil => rfl
 | cons c r =>
   have hjl : m < L.length := drop_len hd
   have hrl : r.length = L.length - (m + 1) := by
     have := congrArg List.length hd; simp at this; omega
   simp only
   rcases hl : leaf c r with d | ⟨⟨kd, sd, nd, ks⟩, n⟩
   · rw [toks_fuel a b L (m + 1) (by omega) (by omega) (by omega)]
   · have hn := leaf_len hl
     rw [toks_fuel a b L (m + 1) (by omega) (by omega) (by omega)]
     simp only
     rw [toks_fuel a b L (m + n) (by omega) (by omega) (by omega)]
section
variable {L : List UInt8} {j : Nat} {c : UInt8} {r : List UInt8}
theorem tokens_end : tokens L L.length = [] := by
 unfold tokens
 rw [show L.length + 1 - L.length = 0 + 1 by omega]
 unfold toks
 simp [skN]
theorem tokens_body (hd : L.drop j = c :: r) (h : Nb c) : tokens L j = (if c.toNat = 41 then ⟨j, 5, 0, 0, ⟨#[]⟩⟩ :: tokens L (j + 1)
     else if c.toNat = 40 then ⟨j, 4, 0, 0, ⟨#[]⟩⟩ :: tokens L (j + 1)
     else match leaf c r with
       | .inl d => [⟨j, 6, 0, j + d, ⟨#[]⟩⟩]
       | .inr (t, n) => tokT j t :: tokens L (j + n)) := by
 have hjl : j < L.length := drop_len hd
 have hrl : r.length = L.length - (j + 1) := by
   have := congrArg List.length hd; simp at this; omega
 have e : tokens L j = toks (L.length - j + 1) L j := by unfold tokens; rw [show L.length + 1 - j = L.length - j + 1 by omega]
 rw [e]
 unfold toks
 rw [hd, skN_nb h, Nat.add_zero, hd]
 simp only
 unfold tokens
 rcases hl : leaf c r with d | ⟨⟨kd, sd, nd, ks⟩, n⟩
 · rw [toks_fuel (L.length - j) (L.length + 1 - (j + 1)) L (j + 1) (by omega) (by omega) (by omega)]
 · have hn := leaf_len hl
   rw [toks_fuel (L.length - j) (L.length + 1 - (j + 1)) L (j + 1) (by omega) (by omega) (by omega)]
   simp only
   rw [toks_fuel (L.length - j) (L.length + 1 - (j + n)) L (j + n) (by omega) (by omega) (by omega)]
end
theorem toks_len (f : Nat) : ∀ (L : List UInt8) (i : Nat), i ≤ L.length → (toks f L i).length + i ≤ L.length := by
 induction f with
 | zero => intro L i h; simp [toks]; exact h
 | succ f ih =>
   intro L i h
   have hs := skN_le false (L.drop i)
   simp at hs
   unfold toks
   generalize hj : i + skN false (L.drop i) = j at *
   cases hd : L.drop j with
   | nil => simp; exact h
   | cons c r =>
     have hjl : j < L.length := drop_len hd
     have hrl : r.length = L.length - (j + 1) := by
       have := congrArg List.length hd; simp at this; omega
     have h1 := ih L (j + 1) (by omega)
     simp only
     split
     · simp; omega
     · split
       · simp; omega
       · split
         · simp; omega
         · next t n hl =>
           have hn := leaf_len hl
           have h2 := ih L (j + n) (by omega)
           simp; omega
end Go.Proofs.YtdipnhghdajplaaGreatDoor
namespace Go.Proofs.YtdipnhghdajplaaGreatDoor
open Go.RowKit
set_option linter.unusedSimpArgs false
set_option linter.unusedVariables false
abbrev tkv (j : Nat) (k n : Int) (wr : Nat) (s : ByteArray) : Value := .agg #[.int .i64 (j : Int), .int .i64 k, .int .i64 n, .int .i64 (wr : Int), .string s]
def tkE (j : Nat) (k n : Int) (wr : Nat) (s : ByteArray) (x : Nat) : Ending := .returned (.tuple #[tkv j k n wr s, .int .i64 (x : Int)])
def TxPost (s : ByteArray) (j : Nat) (w : World) (q : Q) (e : Ending) (w' : World) : Prop :=
 match q with
 | .closed m => e = tkE j 3 0 0 (s.extract (j + 1) (j + 1 + m)) (j + (m + 2)) ∧ Fr w w'
 | .wrong m => e = tkE j 6 0 (j + (m + 1)) ⟨#[]⟩ 0 ∧ Fr w w'
 | .unclosed => e = tkE j 6 0 j ⟨#[]⟩ 0 ∧ Fr w w'
section
variable {s : ByteArray} {j m : Nat} {w w' : World} {q : Q} {e : Ending}
theorem tx_closed (h : q = .closed m) (he : e = tkE j 3 0 0 (s.extract (j + 1) (j + 1 + m)) (j + (m + 2))) (hw : Fr w w') : TxPost s j w q e w' := by subst h; exact ⟨he, hw⟩
theorem tx_wrong (h : q = .wrong m) (he : e = tkE j 6 0 (j + (m + 1)) ⟨#[]⟩ 0) (hw : Fr w w') : TxPost s j w q e w' := by subst h; exact ⟨he, hw⟩
theorem tx_open (h : q = .unclosed) (he : e = tkE j 6 0 j ⟨#[]⟩ 0) (hw : Fr w w') : TxPost s j w q e w' := by subst h; exact ⟨he, hw⟩
end
section
variable {c : UInt8} {r : List UInt8} {m : Nat}
theorem txl_nl (h : (c.toNat : Int) = 10) : textL (c :: r) m = .unclosed := by rw [textL_cons, if_pos (by omega)]
theorem txl_quo (h : (c.toNat : Int) = 34) : textL (c :: r) m = .closed m := by rw [textL_cons, if_neg (by omega), if_pos (by omega)]
theorem txl_bad (h : (c.toNat : Int) ≠ 10) (h2 : (c.toNat : Int) < 32 ∨ 126 < (c.toNat : Int)) : textL (c :: r) m = .wrong m := by
 rw [textL_cons, if_neg (by omega), if_neg (by omega), if_neg]
 unfold txB; simp; omega
theorem txl_next (h : (c.toNat : Int) ≠ 34) (h2 : 32 ≤ (c.toNat : Int)) (h3 : (c.toNat : Int) ≤ 126) : textL (c :: r) m = textL r (m + 1) := by
 rw [textL_cons, if_neg (by omega), if_neg (by omega), if_pos]
 unfold txB; simp; omega
end
theorem tk_e {a b : Int} {k n wr : Int} {s : ByteArray} {x y : Nat} {z : Nat} (h1 : a = (x : Int)) (h2 : wr = (z : Int)) (h3 : b = (y : Int)) : Ending.returned (.tuple #[.agg #[.int .i64 a, .int .i64 k, .int .i64 n, .int .i64 wr, .string s], .int .i64 b]) = tkE x k n z s y := by
 subst h1 h2 h3; rfl
abbrev tkz : Obj := .cells #[.int .i64 0, .int .i64 0, .int .i64 0, .int .i64 0, .string ⟨#[]⟩] 181
set_option maxHeartbeats 6400000 in
set_option maxRecDepth 100000 in
theorem text_any (j : Nat) (s : ByteArray) (w : World) (hj : j < s.size) (hs : s.size ≤ 281474976710656) :
   Calls Tryz.prog 117 #[.string s, .int .i64 (j : Int)] w fun e w' => TxPost s j w (textL (s.data.toList.drop (j + 1)) 0) e w' := by
 have HF := Lib.hid ((Fr.refl w).alloc tkz)
 have HS := Lib.hid hs
 have hs2 : (s.size : Int) ≤ 281474976710656 := by omega
 go_enter Tryz.func117, Tryz.ntmps117
 go_wp2
 go_loop [6] (fun i => QuRel s j i) (fun i => s.size - (intOf i).toNat)
 case atStart => exact ⟨0, by omega, rfl, rfl⟩
 case round =>
   obtain ⟨m, hm, rfl, hq⟩ := hrel
   have HQ := Lib.hid hq
   clear hq
   by_cases hlt : j + 1 + m < s.size
   · have hD := Lib.hid (drop_at s (j + 1 + m) hlt)
     have b2 : (j : Int) + 1 + (m : Int) ≤ (s.size : Int) := by omega
     have hsl := slice_at s (j + 1) (j + 1 + m) (by omega) (by omega)
     have e1 : ((j + 1 : Nat) : Int) = (j : Int) + 1 := by omega
     have e2 : ((j + 1 + m : Nat) : Int) = (j : Int) + 1 + (m : Int) := by omega
     rw [e1, e2] at hsl
     clear e1 e2
     go_wp2
     all_goals first
       | (have t1 : ((s[j + 1 + m].toNat : Int) == 34) = true := by assumption
          refine bodyPost_ret (by simp [results, Tryz.results117, go_sem]; rfl) rfl (tx_closed (m := m) ?_ ?_ ((Fr.refl w).alloc _))
          · rw [HQ.out, hD.out]; exact txl_quo (by simp at t1; omega)
          · exact tk_e rfl rfl (by omega))
       | (have t1 : ((s[j + 1 + m].toNat : Int) != 10) = false := by assumption
          refine bodyPost_ret (by simp [results, Tryz.results117, go_sem]; rfl) rfl (tx_open ?_ ?_ ((Fr.refl w).alloc _))
          · rw [HQ.out, hD.out]; exact txl_nl (by simp at t1; omega)
          · exact tk_e rfl rfl rfl)
       | (have t2 : ((s[j + 1 + m].toNat : Int) == 34) = false := by assumption
          simp at t2
          go_round
          case rel => exact ⟨m + 1, by omega, by go_num, by rw [HQ.out, hD.out, txl_next (by omega) (by omega) (by omega)]; rfl⟩
          case measure => simp [intOf]; omega)
       | (have t1 : ((s[j + 1 + m].toNat : Int) != 10) = true := by assumption
          simp at t1
          refine bodyPost_ret (by simp [results, Tryz.results117, go_sem]; rfl) rfl (tx_wrong (m := m) ?_ ?_ ((Fr.refl w).alloc _))
          · rw [HQ.out, hD.out]; exact txl_bad (by omega) (by omega)
          · exact tk_e rfl (by omega) rfl)
   · have hsz : j + 1 + m = s.size := by omega
     go_wp2
     refine bodyPost_ret (by simp [results, Tryz.results117, go_sem]; rfl) rfl (tx_open ?_ ?_ ((Fr.refl w).alloc _))
     · rw [HQ.out, hsz, drop_all, textL_nil]
     · exact tk_e rfl rfl rfl
end Go.Proofs.YtdipnhghdajplaaGreatDoor
namespace Go.Proofs.YtdipnhghdajplaaGreatDoor
open Go.RowKit
set_option linter.unusedSimpArgs false
set_option linter.unusedVariables false
end Go.Proofs.YtdipnhghdajplaaGreatDoor
namespace Go.Proofs.YtdipnhghdajplaaGreatDoor
open Go.RowKit
set_option linter.unusedSimpArgs false
set_option linter.unusedVariables false
end Go.Proofs.YtdipnhghdajplaaGreatDoor
namespace Go.Proofs.YtdipnhghdajplaaGreatDoor
open Go.RowKit
set_option linter.unusedSimpArgs false
set_option linter.unusedVariables false
end Go.Proofs.YtdipnhghdajplaaGreatDoor
namespace Go.Proofs.YtdipnhghdajplaaGreatDoor
open Go.RowKit
set_option linter.unusedSimpArgs false
set_option linter.unusedVariables false
def tkA (t : Tk) : Array Value := #[.int .i64 (t.pos : Int), .int .i64 t.kind, .int .i64 t.num, .int .i64 (t.wrong : Int), .string t.word]
def tkC (ts : List Tk) : List Value := ts.flatMap fun t => (tkA t).toList
theorem tkC_snoc (ts : List Tk) (t : Tk) : tkC (ts ++ [t]) = tkC ts ++ (tkA t).toList := by simp [tkC, List.flatMap_append]
theorem tkC_at : ∀ (ts : List Tk) (i j : Nat) (h : i < ts.length), j < 5 → (tkC ts)[i * 5 + j]? = (tkA ts[i]).toList[j]?
 | t :: r, 0, j, _, hj => by
   unfold tkC; rw [List.flatMap_cons, List.getElem?_append_left (by simp [tkA]; omega)]; simp
 | t :: r, i + 1, j, h, hj => by
   have ih := tkC_at r i j (by simpa using h) hj
   have e : tkC (t :: r) = (tkA t).toList ++ tkC r := by unfold tkC; rw [List.flatMap_cons]
   rw [e, List.getElem?_append_right (by simp [tkA]; omega)]
   simp only [tkA, List.getElem_cons_succ]
   rw [show (i + 1) * 5 + j - #[Value.int .i64 (t.pos : Int), .int .i64 t.kind, .int .i64 t.num, .int .i64 (t.wrong : Int), .string t.word].toList.length = i * 5 + j by simp; omega]
   exact ih
def Tok (w : World) (base : Nat) (v : Value) (ts : List Tk) : Prop := w.ownsRow base 181 5 v ts.length (tkC ts)
section
variable {w w' : World} {base : Nat} {v : Value} {ts : List Tk}
theorem Tok.fr (h : Tok w base v ts) (k : Fr w w') : Tok w' base v ts := by
 refine World.ownsRow.kept h (row := none) ⟨k.os, k.tape, k.output, k.size, fun i hi _ => k.block i hi⟩ ?_
 cases hv : v.ownBlock
 · exact .inl rfl
 · exact .inr (by simp)
theorem Tok.alloc (h : Tok w base v ts) (o : Obj) : Tok (w.alloc o) base v ts := h.fr ((Fr.refl w).alloc o)
theorem Tok.lt (h : Tok w base v ts) : ∀ b, v.ownBlock = some b → base ≤ b ∧ b < w.heap.size := fun b hb => World.ownsRow.lt h b hb
theorem Tok.new (w : World) : Tok (w.alloc (.cells #[] 181)) w.heap.size (.slice (some ⟨w.heap.size, 0, none⟩) 0 0) [] :=
 ⟨rfl, .inr ⟨w.heap.size, 0, #[], rfl, Nat.le_refl _, heap_alloc_new w _, Nat.le_refl _, Nat.zero_le _, rfl, rfl⟩⟩
end
theorem Tryz.infoTok : (Tryz.prog.info? 181).map (fun i => (i.zero, i.size, i.bytes)) = some (some (.agg #[.int .i64 0, .int .i64 0, .int .i64 0, .int .i64 0, .string ⟨#[]⟩]), 5, 48) := by kernel_rfl
structure Push (w : World) (base : Nat) (v : Value) (ts : List Tk) (t : Tk) (v' : Value) (w' : World) : Prop where
 tok : Tok w' base v' (ts ++ [t])
 fr : ∀ W, Fr W w → W.heap.size ≤ base → Fr W w'
 size : w.heap.size ≤ w'.heap.size
 blk : ∀ b, b < w.heap.size → v.ownBlock ≠ some b → w'.heap[b]? = w.heap[b]?
theorem run_push_tok (w : World) (base : Nat) (ty : TypeId) (v : Value) (ts : List Tk) (t : Tk) (g : Nat) (hown : Tok w base v ts) (hblk : w.heap[g]? = some (.cells (tkA t) 181 (0, 0))) (hlen : ts.length ≤ 300000) (hb : base ≤ w.heap.size) :
   ∃ v' w', (Builtin.append_ #[178, 178] ty #[v, .slice (some ⟨g, 0, none⟩) 1 1]).run Tryz.prog w = .ok v' w' ∧ Push w base v ts t v' w' := by
 obtain ⟨i, hi', hz0, hz1, hz2⟩ := info_parts Tryz.infoTok
 obtain ⟨v', w', hrun, h2, h3, _, _⟩ := run_append_own_at (P := Tryz.prog) w base 178 ty 181 i _ 5 48 Tryz.underlying178 hi' hz0 hz1 hz2 rfl (by omega) v ts.length (tkC ts) hown ⟨g, 0, none⟩ 1 1 (tkA t).toList rfl (World.news_of_block hblk) (by simp [tkA, Value.oneCell']) (by unfold maxLen; omega) (by omega) hb
 refine ⟨v', w', hrun, ?_, fun W hW hWb => Below.grown hW h3 hW.size (fun k hk => Nat.le_trans hWb (hown.lt k hk).1), h3.size, fun b hb hn => h3.block b hb (fun e => hn e.symm)⟩
 unfold Tok
 rw [List.length_append, List.length_singleton, tkC_snoc]
 exact h2
theorem wpList_push_tok {w : World} {ops : Array Oper} {rest : List Oper} {o : Oper} {a : Act} {Q : Exit → Act → World → Prop} (hw : Region.wanted o (yielded ops a.tmps) = true) (s x : Operand)
   (ho : o.op = .call { callee := .builtin .append, args := #[s, x], argTypes := #[178, 178] }) (base : Nat) (v : Value) (ts : List Tk) (t : Tk) (g : Nat) (hs : a.eval s = v) (hx : a.eval x = .slice (some ⟨g, 0, none⟩) 1 1)
   (hown : Tok w base v ts) (hblk : w.heap[g]? = some (.cells (tkA t) 181 (0, 0))) (hlen : ts.length ≤ 300000) (hb : base ≤ w.heap.size)
   (h : ∀ v' w', Hid (Push w base v ts t v' w') → wpList Tryz.prog ops Q rest (a.put o.dst v') w') : wpList Tryz.prog ops Q (o :: rest) a w := by
 refine wpList_step fun K hK => ?_
 rw [if_pos hw]
 obtain ⟨v', w', hrun, hp⟩ := run_push_tok w base o.type v ts t g hown hblk hlen hb
 unfold Oper.wp execOp
 simp only [ho, resolve, invoke, builtin, Sem.run_bind, Sem.run_pure, Result.andThen_ok, List.map_toArray, List.map_cons, List.map_nil, hs, hx, hrun]
 exact hK _ _ (h v' w' (Lib.hid hp))
theorem Push.bk {w : World} {base : Nat} {v v' : Value} {ts : List Tk} {t : Tk} {w' : World} {b : Nat} {ty : TypeId} {cs : Array Value} (h : Push w base v ts t v' w') (hb : Bk w b ty cs) (hn : v.ownBlock ≠ some b) : Bk w' b ty cs := by
 have := hb.lt
 unfold Bk at *
 rw [h.blk b this hn]; exact hb
end Go.Proofs.YtdipnhghdajplaaGreatDoor
namespace Go.Proofs.YtdipnhghdajplaaGreatDoor
open Go.RowKit
set_option linter.unusedSimpArgs false
set_option linter.unusedVariables false
theorem digL_app (l m : List UInt8) : ∀ a : Int, digL a (l ++ m) = (digL a l).bind fun v => digL v m := by
 induction l with
 | nil => intro a; rfl
 | cons c r ih =>
   intro a
   rw [List.cons_append, digL_cons, digL_cons]
   by_cases h : 48 ≤ c.toNat ∧ c.toNat ≤ 57
   · rw [if_pos h, if_pos h, ih]
   · rw [if_neg h, if_neg h]; rfl
def numE : Option Int → Ending
 | some n => .returned (.tuple #[.int .i64 n, .bool true])
 | none => .returned (.tuple #[.int .i64 0, .bool false])
def RelN (d : ByteArray) (n i : Value) : Prop := ∃ (k : Nat) (v : Int), k ≤ d.size ∧ i = .int .i64 (k : Int) ∧ n = .int .i64 v ∧ digL 0 (d.data.toList.take k) = some v
theorem take_at (d : ByteArray) (k : Nat) (h : k < d.size) : d.data.toList.take (k + 1) = d.data.toList.take k ++ [d[k]] := by
 have h2 : k < d.data.toList.length := by simpa using h
 rw [List.take_succ_eq_append_getElem h2]; rfl
theorem digL_next (d : ByteArray) (k : Nat) (v : Int) (h : k < d.size) (hv : digL 0 (d.data.toList.take k) = some v) (h1 : 48 ≤ (d[k].toNat : Int)) (h2 : (d[k].toNat : Int) ≤ 57) : digL 0 (d.data.toList.take (k + 1)) = some (v * 10 + ((d[k].toNat : Int) - 48)) := by
 rw [take_at d k h, digL_snoc, hv]
 simp only [Option.bind_some]
 rw [if_pos (by omega)]
theorem digL_bad (d : ByteArray) (k : Nat) (v : Int) (h : k < d.size) (hv : digL 0 (d.data.toList.take k) = some v) (h1 : ¬ (48 ≤ (d[k].toNat : Int) ∧ (d[k].toNat : Int) ≤ 57)) : digL 0 d.data.toList = none := by
 rw [← List.take_append_drop k d.data.toList, digL_app, hv]
 simp only [Option.bind_some]
 rw [drop_at d k h, digL_cons, if_neg (by omega)]
theorem digL_small {d : ByteArray} {k : Nat} {v : Int} (hk : k ≤ d.size) (h : k ≤ 17) (hv : digL 0 (d.data.toList.take k) = some v) : 0 ≤ v ∧ v < 100000000000000000 := by
 refine ⟨digL_some hv, Int.lt_of_lt_of_le (digL_lt hv) ?_⟩
 have hl : (d.data.toList.take k).length ≤ 17 := by simp; omega
 have : (10 : Nat) ^ (d.data.toList.take k).length ≤ 10 ^ 17 := Nat.pow_le_pow_right (by decide) hl
 have h2 : ((10 ^ (d.data.toList.take k).length : Nat) : Int) ≤ ((10 ^ 17 : Nat) : Int) := by exact_mod_cast this
 rw [Int.natCast_pow] at h2
 exact h2
theorem digL_less {d : ByteArray} {v : Int} (h : d.size ≤ 18) (hv : digL 0 d.data.toList = some v) : 0 ≤ v ∧ v < 1000000000000000000 := by
 refine ⟨digL_some hv, Int.lt_of_lt_of_le (digL_lt hv) ?_⟩
 have hl : d.data.toList.length ≤ 18 := by simp; omega
 have : (10 : Nat) ^ d.data.toList.length ≤ 10 ^ 18 := Nat.pow_le_pow_right (by decide) hl
 have h2 : ((10 ^ d.data.toList.length : Nat) : Int) ≤ ((10 ^ 18 : Nat) : Int) := by exact_mod_cast this
 rw [Int.natCast_pow] at h2
 exact h2
theorem list_at0 (d : ByteArray) (h : 0 < d.size) : d.data.toList = d[0] :: d.data.toList.drop 1 := by
 have := drop_at d 0 h
 simpa using this
theorem magL_none {d : ByteArray} {neg : Bool} (h : d.size = 0 ∨ 18 < d.size) : magL neg d.data.toList = none := by
 rcases Nat.eq_zero_or_pos d.size with h0 | h0
 · have : d.data.toList = [] := List.eq_nil_of_length_eq_zero (by simpa using h0)
   rw [this]; rfl
 · have hl : d.data.toList.length = d.size := by simp
   rw [list_at0 d h0] at hl ⊢
   unfold magL
   simp only
   rw [if_pos (.inl (by omega))]
theorem magL_zero {d : ByteArray} {neg : Bool} (h : 0 < d.size) (h48 : (d[0].toNat : Int) = 48) (hn : neg = true ∨ 1 < d.size) : magL neg d.data.toList = none := by
 have hl : d.data.toList.length = d.size := by simp
 rw [list_at0 d h] at hl ⊢
 have hc : neg = true ∨ d.data.toList.drop 1 ≠ [] := by
   rcases hn with hn | hn
   · exact .inl hn
   · refine .inr fun e => ?_
     rw [e] at hl; simp at hl; omega
 unfold magL
 simp only
 rw [if_pos (.inr ⟨by omega, hc⟩)]
theorem magL_dig {d : ByteArray} {neg : Bool} (h : 0 < d.size) (h18 : d.size ≤ 18) (hz : ¬ ((d[0].toNat : Int) = 48 ∧ (neg = true ∨ 1 < d.size))) : magL neg d.data.toList = (digL 0 d.data.toList).map (fun n => if neg then -n else n) := by
 have hl : d.data.toList.length = d.size := by simp
 rw [list_at0 d h] at hl ⊢
 rw [magL]
 rw [if_neg]
 rintro (k | ⟨k1, k2⟩)
 · omega
 · refine hz ⟨by omega, ?_⟩
   rcases k2 with k2 | k2
   · exact .inl k2
   · rcases Nat.lt_or_ge 1 d.size with k3 | k3
     · exact .inr k3
     · exact absurd (List.eq_nil_of_length_eq_zero (by simp at hl ⊢; omega)) k2
theorem numL_neg {s : ByteArray} (h : 0 < s.size) (h45 : (s[0].toNat : Int) = 45) : numL s.data.toList = magL true (s.data.toList.drop 1) := by
 rw [list_at0 s h, numL, if_pos (by omega)]; simp
theorem numL_pos {s : ByteArray} (h : 0 < s.size) (h45 : ¬ (s[0].toNat : Int) = 45) : numL s.data.toList = magL false s.data.toList := by
 conv => lhs; rw [list_at0 s h, numL, if_neg (by omega), ← list_at0 s h]
set_option maxHeartbeats 3200000 in
set_option maxRecDepth 100000 in
theorem number_pos (s : ByteArray) (w : World) (hs : s.size ≤ 281474976710656) (h0 : 0 < s.size) (h45 : ¬ (s[0].toNat : Int) = 45) :
   Calls Tryz.prog 119 #[.string s] w fun e w' => e = numE (numL s.data.toList) ∧ w = w' := by
 have HN := Lib.hid (numL_pos h0 h45)
 have hb : ((s[0].toNat : Int) == 45) = false := by simp; omega
 clear h45
 have hdp : 0 < s.size := h0
 have hd1 : decide ((s.size : Int) < 1) = false := by simp; omega
 by_cases h18 : 18 < s.size
 · have hd2 : decide ((18 : Int) < (s.size : Int)) = true := by simp; omega
   have HQ := Lib.hid (show numL s.data.toList = none from HN.out.trans (magL_none (.inr h18)))
   go_enter Tryz.func119, Tryz.ntmps119
   go_wp2
   go_ret2
   exact ⟨by rw [HQ.out]; rfl, rfl⟩
 have hd2 : decide ((18 : Int) < (s.size : Int)) = false := by simp; omega
 by_cases hz : (s[0].toNat : Int) = 48 ∧ (false = true ∨ 1 < s.size)
 · have hz1 : ((s[0].toNat : Int) == 48) = true := by rw [hz.1]; rfl
   have hz2 : decide ((1 : Int) < (s.size : Int)) = true := by rw [decide_eq_true_eq]; have := hz.2; simp at this; omega
   have HQ := Lib.hid (show numL s.data.toList = none from HN.out.trans (magL_zero hdp hz.1 hz.2))
   clear hz
   go_enter Tryz.func119, Tryz.ntmps119
   go_wp2
   go_ret2
   exact ⟨by rw [HQ.out]; rfl, rfl⟩
 have HG := Lib.hid (show numL s.data.toList = (digL 0 s.data.toList).map (fun n => if false then -n else n) from HN.out.trans (magL_dig hdp (by omega) hz))
 have hzz : ((s[0].toNat : Int) == 48) = false ∨ (((s[0].toNat : Int) == 48) = true ∧ decide ((1 : Int) < (s.size : Int)) = false) := by
   by_cases k : (s[0].toNat : Int) = 48
   · refine .inr ⟨by rw [k]; rfl, ?_⟩
     rw [decide_eq_false_iff_not]
     intro k2
     exact hz ⟨k, .inr (by omega)⟩
   · exact .inl (by simpa using k)
 clear hz
 have h18' : s.size ≤ 18 := by omega
 have h18i : (s.size : Int) ≤ 18 := by omega
 rcases hzz with hzz | ⟨hzz, hz2⟩
 all_goals
   go_enter Tryz.func119, Tryz.ntmps119
   go_wp2
   go_loop [5, 6] (fun n i => RelN s n i) (fun _ i => s.size - (intOf i).toNat)
   case atStart => exact ⟨0, 0, Nat.zero_le _, rfl, rfl, rfl⟩
   case round =>
     obtain ⟨k, v, hk, rfl, rfl, hv⟩ := hrel
     by_cases hlt2 : k < s.size
     · have hb1 := digL_small hk (by omega) hv
       obtain ⟨hv0, hv1⟩ := hb1
       have HNX := Lib.hid (digL_next s k v hlt2 hv)
       have HBD := Lib.hid (digL_bad s k v hlt2 hv)
       have hc8 := s[k].toNat_lt
       clear hv
       go_wp2
       · go_ret2
         exact ⟨by rw [HG.out, HBD.out (by omega)]; rfl, rfl⟩
       · go_round
         case rel => exact ⟨k + 1, v * 10 + ((s[k].toNat : Int) - 48), by omega, by go_num, by go_num, HNX.out (by omega) (by omega)⟩
         case measure => simp [intOf]; omega
       · go_ret2
         exact ⟨by rw [HG.out, HBD.out (by omega)]; rfl, rfl⟩
     · obtain rfl : k = s.size := by omega
       rw [List.take_of_length_le (by simp)] at hv
       have hb1 := digL_less h18' hv
       obtain ⟨hv0, hv1⟩ := hb1
       have HV := Lib.hid hv
       clear hv
       go_wp2
       go_ret2
       exact ⟨by rw [HG.out, HV.out]; rfl, rfl⟩
set_option maxHeartbeats 3200000 in
set_option maxRecDepth 100000 in
theorem number_neg (s d : ByteArray) (w : World) (hs : s.size ≤ 281474976710656) (h0 : 0 < s.size) (h45 : (s[0].toNat : Int) = 45) (hx : s.extract 1 s.size = d) :
   Calls Tryz.prog 119 #[.string s] w fun e w' => e = numE (numL s.data.toList) ∧ w = w' := by
 have hds : d.size = s.size - 1 := by rw [← hx]; simp
 have hdl : s.data.toList.drop 1 = d.data.toList := by rw [← hx]; simp [List.take_of_length_le]
 have HN := Lib.hid (show numL s.data.toList = magL true d.data.toList from by rw [numL_neg h0 h45, hdl])
 have hx2 : s.extract 1 (s.size) = d := hx
 have hb : ((s[0].toNat : Int) == 45) = true := by rw [h45]; rfl
 have hlt : decide (d.size < s.size) = true := by rw [decide_eq_true_eq]; omega
 have HDS := Lib.hid hds
 clear h45 hdl hds
 by_cases hd0 : d.size = 0
 · have hd1 : decide ((d.size : Int) < 1) = true := by simp; omega
   have hd2 : (d.size : Int) < 1 := by omega
   have HD0 := Lib.hid hd0
   clear hd0
   have HQ := Lib.hid (show numL s.data.toList = none from HN.out.trans (magL_none (.inl HD0.out)))
   go_enter Tryz.func119, Tryz.ntmps119
   go_wp2
   go_ret2
   exact ⟨by rw [HQ.out]; rfl, rfl⟩
 have hdp : 0 < d.size := by omega
 have hd1 : decide ((d.size : Int) < 1) = false := by simp; omega
 by_cases h18 : 18 < d.size
 · have hd2 : decide ((18 : Int) < (d.size : Int)) = true := by simp; omega
   have HQ := Lib.hid (show numL s.data.toList = none from HN.out.trans (magL_none (.inr h18)))
   go_enter Tryz.func119, Tryz.ntmps119
   go_wp2
   go_ret2
   exact ⟨by rw [HQ.out]; rfl, rfl⟩
 have hd2 : decide ((18 : Int) < (d.size : Int)) = false := by simp; omega
 by_cases hz : (d[0].toNat : Int) = 48 ∧ (true = true ∨ 1 < d.size)
 · have hz1 : ((d[0].toNat : Int) == 48) = true := by rw [hz.1]; rfl
   have hz2 : decide ((1 : Int) < (s.size : Int)) = true := by rw [decide_eq_true_eq]; have := HDS.out; omega
   have HQ := Lib.hid (show numL s.data.toList = none from HN.out.trans (magL_zero hdp hz.1 hz.2))
   clear hz
   go_enter Tryz.func119, Tryz.ntmps119
   go_wp2
   go_ret2
   exact ⟨by rw [HQ.out]; rfl, rfl⟩
 have HG := Lib.hid (show numL s.data.toList = (digL 0 d.data.toList).map (fun n => if true then -n else n) from HN.out.trans (magL_dig hdp (by omega) hz))
 have hzz : ((d[0].toNat : Int) == 48) = false ∨ (((d[0].toNat : Int) == 48) = true ∧ decide ((1 : Int) < (s.size : Int)) = false) := by
   by_cases k : (d[0].toNat : Int) = 48
   · refine .inr ⟨by rw [k]; rfl, ?_⟩
     rw [decide_eq_false_iff_not]
     intro k2
     exact hz ⟨k, .inl rfl⟩
   · exact .inl (by simpa using k)
 clear hz
 have h18' : d.size ≤ 18 := by omega
 have h18i : (d.size : Int) ≤ 18 := by omega
 rcases hzz with hzz | ⟨hzz, hz2⟩
 all_goals
   go_enter Tryz.func119, Tryz.ntmps119
   go_wp2
   go_loop [5, 6] (fun n i => RelN d n i) (fun _ i => d.size - (intOf i).toNat)
   case atStart => exact ⟨0, 0, Nat.zero_le _, rfl, rfl, rfl⟩
   case round =>
     obtain ⟨k, v, hk, rfl, rfl, hv⟩ := hrel
     by_cases hlt2 : k < d.size
     · have hb1 := digL_small hk (by omega) hv
       obtain ⟨hv0, hv1⟩ := hb1
       have HNX := Lib.hid (digL_next d k v hlt2 hv)
       have HBD := Lib.hid (digL_bad d k v hlt2 hv)
       have hc8 := d[k].toNat_lt
       clear hv
       go_wp2
       · go_ret2
         exact ⟨by rw [HG.out, HBD.out (by omega)]; rfl, rfl⟩
       · go_round
         case rel => exact ⟨k + 1, v * 10 + ((d[k].toNat : Int) - 48), by omega, by go_num, by go_num, HNX.out (by omega) (by omega)⟩
         case measure => simp [intOf]; omega
       · go_ret2
         exact ⟨by rw [HG.out, HBD.out (by omega)]; rfl, rfl⟩
     · obtain rfl : k = d.size := by omega
       rw [List.take_of_length_le (by simp)] at hv
       have hb1 := digL_less h18' hv
       obtain ⟨hv0, hv1⟩ := hb1
       have HV := Lib.hid hv
       clear hv
       go_wp2
       go_ret2
       exact ⟨by rw [HG.out, HV.out]; rfl, rfl⟩
theorem number_any (s : ByteArray) (w : World) (hs : s.size ≤ 281474976710656) (h0 : 0 < s.size) :
   Calls Tryz.prog 119 #[.string s] w fun e w' => e = numE (numL s.data.toList) ∧ w = w' := by
 by_cases h45 : (s[0].toNat : Int) = 45
 · exact number_neg s _ w hs h0 h45 rfl
 · exact number_pos s w hs h0 h45
end Go.Proofs.YtdipnhghdajplaaGreatDoor
namespace Go.Proofs.YtdipnhghdajplaaGreatDoor
open Go.RowKit
set_option linter.unusedSimpArgs false
set_option linter.unusedVariables false
abbrev hd (g n c : Nat) : Value := .slice (some ⟨g, 0, none⟩) n c
def hdrs : List (List T) → List (Nat × Nat) → List Value
 | cur :: r, (g, c) :: gr => hdrs r gr ++ [hd g cur.length c]
 | _, _ => []
def Lvl (w : World) (base : Nat) (D : Nat → Prop) (g c : Nat) (cur : List T) : Prop := ∃ vs, w.ownsRow base 144 4 (hd g cur.length c) cur.length vs ∧ Fits w D cur vs
def Lvs (w : World) (base : Nat) (D : Nat → Prop) : List (List T) → List (Nat × Nat) → Prop
 | [], [] => True
 | cur :: r, (g, c) :: gr => Lvl w base D g c cur ∧ Lvs w base D r gr
 | _, _ => False
structure Stk (w : World) (base sb sc : Nat) (st : List (List T)) (gs : List (Nat × Nat)) (D : Nat → Prop) : Prop where
 row : w.ownsRow base 138 1 (hd sb st.length sc) st.length (hdrs st gs)
 lvs : Lvs w base D st gs
 one : sb ∉ gs.map (·.1)
 two : (gs.map (·.1)).Nodup
 dead : ∀ b, D b → b ≠ sb ∧ b ∉ gs.map (·.1) ∧ b < w.heap.size
section
variable {w w' : World} {base : Nat} {D D' : Nat → Prop} {st rest : List (List T)} {gs gr : List (Nat × Nat)}
theorem own_heap {e : TypeId} {size g n c : Nat} {xs : List Value} (h : w.ownsRow base e size (hd g n c) n xs) (k : w'.heap[g]? = w.heap[g]?) : w'.ownsRow base e size (hd g n c) n xs := by
 refine ⟨h.1, ?_⟩
 rcases h.2 with ⟨h', _⟩ | ⟨g', cap', cur, h', hb, hg, rest⟩
 · simp at h'
 · simp only [Value.slice.injEq, Option.some.injEq, Addr.mk.injEq, and_true, true_and] at h'
   obtain ⟨rfl, rfl⟩ := h'
   exact .inr ⟨g, c, cur, rfl, hb, k.trans hg, rest⟩
theorem own_cap {e : TypeId} {size g n c : Nat} {xs : List Value} (h : w.ownsRow base e size (hd g n c) n xs) : n ≤ c ∧ base ≤ g ∧ g < w.heap.size := by
 have hl := World.ownsRow.lt h g rfl
 rcases h.2 with ⟨h', _⟩ | ⟨g', cap', cur, h', hb, hg, hn, _⟩
 · simp at h'
 · simp only [Value.slice.injEq, Option.some.injEq, Addr.mk.injEq, and_true, true_and] at h'
   obtain ⟨rfl, rfl⟩ := h'
   exact ⟨hn, hl⟩
theorem own_front {e : TypeId} {size g n m c : Nat} {xs ys : List Value} (h : w.ownsRow base e size (hd g n c) n (xs ++ ys)) (hx : xs.length = m * size) (hm : m ≤ n) : w.ownsRow base e size (hd g m c) m xs := by
 refine ⟨hx, ?_⟩
 rcases h.2 with ⟨h', _⟩ | ⟨g', cap', cur, h', hb, hg, hnc, hcm, hcs, ht⟩
 · simp at h'
 · simp only [Value.slice.injEq, Option.some.injEq, Addr.mk.injEq, and_true, true_and] at h'
   obtain ⟨rfl, rfl⟩ := h'
   refine .inr ⟨g, c, cur, rfl, hb, hg, by omega, hcm, hcs, ?_⟩
   have e1 : (cur.toList.take (n * size)).take (m * size) = xs := by rw [ht, ← hx, List.take_left']; rfl
   rw [List.take_take, Nat.min_eq_left (Nat.mul_le_mul_right _ hm)] at e1
   exact e1
theorem hdrs_len : ∀ {st : List (List T)} {gs : List (Nat × Nat)}, Lvs w base D st gs → (hdrs st gs).length = st.length ∧ gs.length = st.length
 | [], [], _ => ⟨rfl, rfl⟩
 | cur :: r, (g, c) :: gr, h => by
   have := hdrs_len h.2
   simp [hdrs, this.1, this.2]
 | [], _ :: _, h => h.elim
 | _ :: _, [], h => h.elim
theorem Lvl.mono {g c : Nat} {cur : List T} (h : Lvl w base D g c cur) (hD : ∀ b, D b → D' b) (h1 : w'.heap[g]? = w.heap[g]?) (h2 : ∀ b, D b → w'.heap[b]? = w.heap[b]?) : Lvl w' base D' g c cur := by
 obtain ⟨vs, ho, hf⟩ := h
 exact ⟨vs, own_heap ho h1, hf.mono hD h2⟩
theorem Lvs.mono (hD : ∀ b, D b → D' b) (h2 : ∀ b, D b → w'.heap[b]? = w.heap[b]?) : ∀ {st : List (List T)} {gs : List (Nat × Nat)}, Lvs w base D st gs → (∀ b ∈ gs.map (·.1), w'.heap[b]? = w.heap[b]?) → Lvs w' base D' st gs
 | [], [], _, _ => trivial
 | cur :: r, (g, c) :: gr, h, h1 => ⟨h.1.mono hD (h1 g (by simp)) h2, Lvs.mono hD h2 h.2 fun b hb => h1 b (by simp at hb ⊢; exact .inr hb)⟩
 | [], _ :: _, h, _ => h.elim
 | _ :: _, [], h, _ => h.elim
theorem Lvs.lt : ∀ {st : List (List T)} {gs : List (Nat × Nat)}, Lvs w base D st gs → ∀ b ∈ gs.map (·.1), base ≤ b ∧ b < w.heap.size
 | [], [], _, b, hb => by simp at hb
 | cur :: r, (g, c) :: gr, h, b, hb => by
   obtain ⟨vs, ho, _⟩ := h.1
   simp only [List.map_cons, List.mem_cons] at hb
   rcases hb with rfl | hb
   · exact (own_cap ho).2
   · exact Lvs.lt h.2 b hb
 | [], _ :: _, h, _, _ => h.elim
 | _ :: _, [], h, _, _ => h.elim
theorem Stk.keep {sb sc : Nat} (h : Stk w base sb sc st gs D) (k : ∀ b, b < w.heap.size → w'.heap[b]? = w.heap[b]?) (hs : w.heap.size ≤ w'.heap.size) : Stk w' base sb sc st gs D := by
 refine ⟨own_heap h.row (k sb (own_cap h.row).2.2), h.lvs.mono (fun _ h => h) (fun b hb => k b (h.dead b hb).2.2) (fun b hb => k b (h.lvs.lt b hb).2), h.one, h.two, fun b hb => ?_⟩
 have := h.dead b hb
 exact ⟨this.1, this.2.1, by omega⟩
theorem Stk.fr {sb sc : Nat} (h : Stk w base sb sc st gs D) (k : Fr w w') : Stk w' base sb sc st gs D := h.keep (fun b hb => k.block b hb) k.size
theorem Stk.dead_more {sb sc : Nat} (h : Stk w base sb sc st gs D) (hD : ∀ b, D b → D' b) (hd : ∀ b, D' b → b ≠ sb ∧ b ∉ gs.map (·.1) ∧ b < w.heap.size) : Stk w base sb sc st gs D' :=
 ⟨h.row, h.lvs.mono hD (fun _ _ => rfl) (fun _ _ => rfl), h.one, h.two, hd⟩
theorem Stk.headers {sb sc g c : Nat} {cur : List T} (h : Stk w base sb sc (cur :: rest) ((g, c) :: gr) D) : (hdrs rest gr).length = rest.length ∧ w.cell? ⟨sb, rest.length, none⟩ = some (hd g cur.length c) ∧ w.frozen? ⟨sb, rest.length, none⟩ = false := by
 have hl := (hdrs_len h.lvs.2).1
 refine ⟨hl, ?_, World.ownsRow.frozenAt h.row _⟩
 rw [World.ownsRow.cellAt h.row rest.length (by simp), hdrs, List.getElem?_append_right (by omega), hl]
 simp
theorem Stk.pop {sb sc g c : Nat} {cur : List T} (h : Stk w base sb sc (cur :: rest) ((g, c) :: gr) D) : Stk w base sb sc rest gr (fun b => D b ∨ b = g) ∧ RdL w (fun b => D b ∨ b = g) (some ⟨g, 0, none⟩) cur := by
 obtain ⟨hl, _, _⟩ := h.headers
 obtain ⟨vs, ho, hf⟩ := h.lvs.1
 have hone := h.one
 have htwo := h.two
 simp only [List.map_cons, List.mem_cons, not_or, List.nodup_cons] at hone htwo
 have hlt := own_cap ho
 refine ⟨⟨own_front h.row (by rw [hl]; omega) (by simp), h.lvs.2.mono (fun _ h => .inl h) (fun _ _ => rfl) (fun _ _ => rfl), hone.2, htwo.2, ?_⟩, ?_⟩
 · rintro b (hb | rfl)
   · have := h.dead b hb
     simp only [List.map_cons, List.mem_cons, not_or] at this
     exact ⟨this.1, this.2.1.2, this.2.2⟩
   · exact ⟨fun e => hone.1 e.symm, htwo.1, hlt.2.2⟩
 · refine RdL.of_fits (.inr rfl) (hf.mono (fun _ h => .inl h) (fun _ _ => rfl)) fun i u hu => ?_
   have h := ho.cells (g := g) rfl i u hu
   rw [Nat.zero_add]
   rw [show (⟨g, i, none⟩ : Addr) = (⟨g, 0, none⟩ : Addr).add i by unfold Addr.add; by_cases h0 : i = 0 <;> simp [h0]]
   exact h
theorem Stk.app {sb sc g c g' c' : Nat} {cur : List T} {vs : List Value} {k n : Int} {s : ByteArray} {ks : List T} {A : Option Addr} {ca : Nat} (h : Stk w base sb sc (cur :: rest) ((g, c) :: gr) D) (hf : Fits w D cur vs)
   (hks : ks.length ≤ ca) (hrd : RdL w D A ks)
   (hrow : w'.ownsRow base 144 4 (hd g' (cur.length + 1) c') (cur.length + 1) (vs ++ [.int .i64 k, .string s, .int .i64 n, .slice A ks.length ca]))
   (hstk : w'.ownsRow base 138 1 (hd sb (rest.length + 1) sc) (rest.length + 1) (hdrs rest gr ++ [hd g' (cur.length + 1) c']))
   (hb : ∀ b, b < w.heap.size → b ≠ g → b ≠ sb → w'.heap[b]? = w.heap[b]?) (hs : w.heap.size ≤ w'.heap.size) (hg : g' = g ∨ w.heap.size ≤ g') : Stk w' base sb sc ((cur ++ [.node k s n ks]) :: rest) ((g', c') :: gr) D := by
 have hone := h.one
 have htwo := h.two
 simp only [List.map_cons, List.mem_cons, not_or, List.nodup_cons] at hone htwo
 have hD : ∀ b, D b → w'.heap[b]? = w.heap[b]? := fun b hD => by
   have := h.dead b hD
   simp only [List.map_cons, List.mem_cons, not_or] at this
   exact hb b this.2.2 this.2.1.1 this.1
 have hgr : ∀ b ∈ gr.map (·.1), w'.heap[b]? = w.heap[b]? := fun b hm => hb b (h.lvs.2.lt b hm).2 (fun e => htwo.1 (e ▸ hm)) (fun e => hone.2 (e ▸ hm))
 have hl : (cur ++ [T.node k s n ks]).length = cur.length + 1 := by simp
 have hsb := (own_cap h.row).2.2
 refine ⟨?_, ⟨⟨_, by rw [hl]; exact hrow, Fits.snoc hks (hrd.mono (fun _ h => h) hD) (hf.mono (fun _ h => h) hD)⟩, h.lvs.2.mono (fun _ h => h) hD hgr⟩, ?_, ?_, ?_⟩
 · rw [hdrs, hl]; exact hstk
 · simp only [List.map_cons, List.mem_cons, not_or]
   exact ⟨by rcases hg with rfl | hg
             · exact hone.1
             · omega, hone.2⟩
 · simp only [List.map_cons, List.nodup_cons]
   refine ⟨?_, htwo.2⟩
   rcases hg with rfl | hg
   · exact htwo.1
   · intro hm; have := (h.lvs.2.lt g' hm).2; omega
 · intro b hb'
   have := h.dead b hb'
   simp only [List.map_cons, List.mem_cons, not_or] at this ⊢
   refine ⟨this.1, ⟨?_, this.2.1.2⟩, by omega⟩
   rcases hg with rfl | hg
   · exact this.2.1.1
   · omega
theorem Stk.push {sb sc sb' sc' ge ce : Nat} (h : Stk w base sb sc st gs D) (hrow : w'.ownsRow base 144 4 (hd ge 0 ce) 0 [])
   (hstk : w'.ownsRow base 138 1 (hd sb' (st.length + 1) sc') (st.length + 1) (hdrs st gs ++ [hd ge 0 ce]))
   (hb : ∀ b, b < w.heap.size → b ≠ sb → w'.heap[b]? = w.heap[b]?) (hs : w.heap.size ≤ w'.heap.size) (hge : w.heap.size ≤ ge) (hsb : sb' = sb ∨ w.heap.size ≤ sb') (hne : sb' ≠ ge) : Stk w' base sb' sc' ([] :: st) ((ge, ce) :: gs) D := by
 have hD : ∀ b, D b → w'.heap[b]? = w.heap[b]? := fun b hD => hb b (h.dead b hD).2.2 (h.dead b hD).1
 have hgr : ∀ b ∈ gs.map (·.1), w'.heap[b]? = w.heap[b]? := fun b hm => hb b (h.lvs.lt b hm).2 (fun e => h.one (e ▸ hm))
 have hlsb := (own_cap h.row).2.2
 refine ⟨by rw [hdrs]; exact hstk, ⟨⟨[], hrow, by unfold Fits; rfl⟩, h.lvs.mono (fun _ h => h) hD hgr⟩, ?_, ?_, ?_⟩
 · simp only [List.map_cons, List.mem_cons, not_or]
   refine ⟨hne, fun hm => ?_⟩
   rcases hsb with rfl | hsb
   · exact h.one hm
   · have := (h.lvs.lt sb' hm).2; omega
 · simp only [List.map_cons, List.nodup_cons]
   exact ⟨fun hm => by have := (h.lvs.lt ge hm).2; omega, h.two⟩
 · intro b hb'
   have := h.dead b hb'
   simp only [List.map_cons, List.mem_cons, not_or]
   refine ⟨?_, ⟨by omega, this.2.1⟩, by omega⟩
   rcases hsb with rfl | hsb
   · exact this.1
   · omega
theorem Stk.last {sb sc g c : Nat} {cur : List T} (h : Stk w base sb sc [cur] [(g, c)] D) : cur.length ≤ c ∧ RdL w (fun b => D b ∨ b = g) (some ⟨g, 0, none⟩) cur := by
 obtain ⟨vs, ho, hf⟩ := h.lvs.1
 exact ⟨(own_cap ho).1, h.pop.2⟩
end
theorem own_four {w : World} {base g n c : Nat} {e : TypeId} {xs : List Value} {a0 a1 a2 a3 : Value} (h : w.ownsRow base e 4 (hd g (n + 1) c) (n + 1) (xs ++ [a0, a1, a2, a3])) : w.cell? ⟨g, n * 4, none⟩ = some a0 ∧ w.cell? ⟨g, n * 4 + 1, none⟩ = some a1 ∧ w.cell? ⟨g, n * 4 + 2, none⟩ = some a2 ∧ w.cell? ⟨g, n * 4 + 3, none⟩ = some a3 ∧
   w.frozen? ⟨g, n * 4, none⟩ = false ∧ w.frozen? ⟨g, n * 4 + 1, none⟩ = false ∧ w.frozen? ⟨g, n * 4 + 2, none⟩ = false ∧ w.frozen? ⟨g, n * 4 + 3, none⟩ = false := by
 have hl : xs.length = n * 4 := by have := h.1; simp at this; omega
 have hc : ∀ j, j < 4 → w.cell? ⟨g, n * 4 + j, none⟩ = [a0, a1, a2, a3][j]? := fun j hj => by
   rw [World.ownsRow.cellAt h (n * 4 + j) (by omega), List.getElem?_append_right (by omega)]
   rw [show n * 4 + j - xs.length = j by omega]
 exact ⟨hc 0 (by omega), hc 1 (by omega), hc 2 (by omega), hc 3 (by omega), World.ownsRow.frozenAt h _, World.ownsRow.frozenAt h _, World.ownsRow.frozenAt h _, World.ownsRow.frozenAt h _⟩
theorem own_put4 {w : World} {base g n c : Nat} {xs : List Value} {a0 a1 a2 a3 : Value} (x0 x1 x2 x3 : Value) (h : w.ownsRow base 144 4 (hd g (n + 1) c) (n + 1) (xs ++ [a0, a1, a2, a3])) :
   ((((w.setCell ⟨g, n * 4, none⟩ x0).setCell ⟨g, n * 4 + 1, none⟩ x1).setCell ⟨g, n * 4 + 2, none⟩ x2).setCell ⟨g, n * 4 + 3, none⟩ x3).ownsRow base 144 4 (hd g (n + 1) c) (n + 1) (xs ++ [x0, x1, x2, x3]) := by
 have hl : xs.length = n * 4 := by have := h.1; simp at this; omega
 have h4 := ((((h.stored (n * 4) x0).1.stored (n * 4 + 1) x1).1.stored (n * 4 + 2) x2).1.stored (n * 4 + 3) x3).1
 rw [← hl] at h4 ⊢
 simpa [List.set_append] using h4
end Go.Proofs.YtdipnhghdajplaaGreatDoor
namespace Go.Proofs.YtdipnhghdajplaaGreatDoor
open Go.RowKit
set_option linter.unusedSimpArgs false
set_option linter.unusedVariables false
inductive Tm where
 | node (op w a b : Int) (ks : List Tm)
structure Env where
 files : List (Int × Int × Int)
 classes : List (Int × Int)
 nflags : Nat
 args : List Int
def plB (x : Int) (n : Nat) : Bool := decide (0 ≤ x) && decide (x < n)
def wideI (w : Int) : Int := if 1 ≤ w ∧ w ≤ 128 then w else 0
def sharedI (a b : Int) : Int := if a = b then a else 0
def memB (w : Int) : Bool := decide (w = 8) || decide (w = 16) || decide (w = 32) || decide (w = 64)
def fileB (f : Int × Int × Int) : Bool := decide (1 ≤ f.1) && decide (f.1 ≤ 64) && decide (1 ≤ f.2.1) && decide (f.2.1 ≤ 64) && decide (-1 ≤ f.2.2) && decide (f.2.2 < f.1)
def kidsI (op : Int) : Int :=
 if 1 ≤ op ∧ op ≤ 17 then 2 else if op = 18 ∨ op = 19 ∨ op = 26 ∨ op = 28 ∨ op = 29 ∨ op = 30 then 1 else if op = 27 then 3 else if 20 ≤ op ∧ op ≤ 25 then 0 else -1
def clsO (E : Env) (x : Int) : Option (Int × Int) :=
 if 0 ≤ x then match E.args[x.toNat]? with
   | some c => if 0 ≤ c then E.classes[c.toNat]? else none
   | none => none
 else none
def fileO (E : Env) (x : Int) : Option (Int × Int × Int) := if 0 ≤ x then match E.files[x.toNat]? with
 | some f => if fileB f then some f else none
 | none => none
 else none
def regW (E : Env) (a b : Int) : Int := match fileO E a with
 | none => 0
 | some f => if clsO E b = some (1, a) then f.2.1 else if b < 0 ∧ -f.1 ≤ b then f.2.1 else 0
def leafW (E : Env) (op w a b : Int) : Int :=
 if op = 20 then wideI w
 else if op = 21 then regW E a b
 else if op = 22 then (match clsO E a with | some c => if c.1 = 1 then 0 else wideI w | none => 0)
 else if op = 23 ∨ op = 24 then 64
 else if op = 25 then (if plB a E.nflags then 1 else 0)
 else 0
def joinW (op w a b x y z : Int) : Int :=
 if op = 7 ∨ op = 8 ∨ op = 9 ∨ op = 18 ∨ op = 19 then x
 else if op = 14 ∨ op = 15 ∨ op = 16 then (if x = y then 1 else 0)
 else if op = 17 then wideI (x + y)
 else if op = 26 then (if x = 64 ∧ memB w then w else 0)
 else if op = 27 then (if x = 1 then sharedI y z else 0)
 else if op = 28 ∨ op = 29 then wideI w
 else if op = 30 then (if 0 ≤ b ∧ b ≤ a ∧ a < x then a - b + 1 else 0)
 else sharedI x y
mutual
def widT (E : Env) : Tm → Int
 | .node op w a b ks => if (ks.length : Int) = kidsI op then match widL E ks with
     | none => 0
     | some ws => if ks.length = 0 then leafW E op w a b else joinW op w a b (ws.getD 0 0) (ws.getD 1 0) (ws.getD 2 0)
   else 0
def widL (E : Env) : List Tm → Option (List Int)
 | [] => some []
 | t :: r => if widT E t = 0 then none else match widL E r with
   | none => none
   | some ws => some (widT E t :: ws)
end
mutual
def TmL (w : World) : Option Addr → List Tm → Prop
 | _, [] => True
 | A, t :: r => ∃ b o, A = some ⟨b, o, none⟩ ∧ TmT w b o t ∧ TmL w (some ⟨b, o + 5, none⟩) r
def TmT (w : World) : Nat → Nat → Tm → Prop
 | b, o, .node op wd x y ks => ∃ A c, (ks.length ≤ c ∧ c ≤ maxLen) ∧ w.cell? ⟨b, o, none⟩ = some (.int .i64 op) ∧ w.cell? ⟨b, o + 1, none⟩ = some (.int .i64 wd) ∧ w.cell? ⟨b, o + 2, none⟩ = some (.int .i64 x) ∧
     w.cell? ⟨b, o + 3, none⟩ = some (.int .i64 y) ∧ w.cell? ⟨b, o + 4, none⟩ = some (.slice A ks.length c) ∧ TmL w A ks
end
mutual
theorem TmL.fr {w w' : World} (k : Fr w w') : ∀ {l : List Tm} {A : Option Addr}, TmL w A l → TmL w' A l
 | [], _, _ => by unfold TmL; trivial
 | t :: r, A, h => by
   unfold TmL at h ⊢
   obtain ⟨b, o, e, ht, hr⟩ := h
   exact ⟨b, o, e, TmT.fr k ht, TmL.fr k hr⟩
theorem TmT.fr {w w' : World} (k : Fr w w') : ∀ {t : Tm} {b o : Nat}, TmT w b o t → TmT w' b o t
 | .node op wd x y ks, b, o, h => by
   unfold TmT at h ⊢
   obtain ⟨A, c, hc, h0, h1, h2, h3, h4, hk⟩ := h
   exact ⟨A, c, hc, k.get h0, k.get h1, k.get h2, k.get h3, k.get h4, TmL.fr k hk⟩
end
theorem TmL.elem {w : World} : ∀ {l : List Tm} {A : Option Addr} (i : Nat) (hi : i < l.length), TmL w A l → ∃ b o, A = some ⟨b, o, none⟩ ∧ TmT w b (o + 5 * i) l[i]
 | t :: r, A, 0, _, h => by
   unfold TmL at h
   obtain ⟨b, o, e, ht, hr⟩ := h
   exact ⟨b, o, e, by simpa using ht⟩
 | t :: r, A, i + 1, hi, h => by
   unfold TmL at h
   obtain ⟨b, o, e, ht, hr⟩ := h
   obtain ⟨b', o', e', hx⟩ := TmL.elem (w := w) i (by simpa using hi) hr
   injection e' with e'; injection e' with e1 e2; subst e1 e2
   refine ⟨b, o, e, ?_⟩
   simp only [List.getElem_cons_succ]
   rwa [show o + 5 * (i + 1) = o + 5 + 5 * i by omega]
def RowOf {α : Type} (f : World → Nat → Nat → α → Prop) (n : Nat) (w : World) (A : Option Addr) (l : List α) : Prop :=
 0 < l.length → ∃ b o, A = some ⟨b, o, none⟩ ∧ ∀ (i : Nat) (h : i < l.length), f w b (o + n * i) l[i]
def FileAt (w : World) (b o : Nat) (f : Int × Int × Int) : Prop := ∃ n, w.cell? ⟨b, o, none⟩ = some (.string n) ∧ w.cell? ⟨b, o + 1, none⟩ = some (.int .i64 f.1) ∧ w.cell? ⟨b, o + 2, none⟩ = some (.int .i64 f.2.1) ∧ w.cell? ⟨b, o + 3, none⟩ = some (.int .i64 f.2.2)
def ClassAt (w : World) (b o : Nat) (c : Int × Int) : Prop := ∃ n u v x y l k, w.cell? ⟨b, o, none⟩ = some (.string n) ∧ w.cell? ⟨b, o + 1, none⟩ = some (.int .i64 c.1) ∧ w.cell? ⟨b, o + 2, none⟩ = some (.int .i64 c.2) ∧
 w.cell? ⟨b, o + 3, none⟩ = some (.int .i64 u) ∧ w.cell? ⟨b, o + 4, none⟩ = some (.int .i64 v) ∧ w.cell? ⟨b, o + 5, none⟩ = some (.int .i64 x) ∧ w.cell? ⟨b, o + 6, none⟩ = some (.slice y l k)
def ArgAt (w : World) (b o : Nat) (c : Int) : Prop := ∃ n, w.cell? ⟨b, o, none⟩ = some n ∧ w.cell? ⟨b, o + 1, none⟩ = some (.int .i64 c)
theorem FileAt.fr {w w' : World} {b o : Nat} {f : Int × Int × Int} (h : FileAt w b o f) (k : Fr w w') : FileAt w' b o f := by
 obtain ⟨n, h0, h1, h2, h3⟩ := h; exact ⟨n, k.get h0, k.get h1, k.get h2, k.get h3⟩
theorem ClassAt.fr {w w' : World} {b o : Nat} {c : Int × Int} (h : ClassAt w b o c) (k : Fr w w') : ClassAt w' b o c := by
 obtain ⟨n, u, v, x, y, l, kk, h0, h1, h2, h3, h4, h5, h6⟩ := h; exact ⟨n, u, v, x, y, l, kk, k.get h0, k.get h1, k.get h2, k.get h3, k.get h4, k.get h5, k.get h6⟩
theorem ArgAt.fr {w w' : World} {b o : Nat} {c : Int} (h : ArgAt w b o c) (k : Fr w w') : ArgAt w' b o c := by
 obtain ⟨n, h0, h1⟩ := h; exact ⟨n, k.get h0, k.get h1⟩
theorem RowOf.fr {α : Type} {f : World → Nat → Nat → α → Prop} {n : Nat} {w w' : World} {A : Option Addr} {l : List α} (hf : ∀ b o x, f w b o x → f w' b o x) (h : RowOf f n w A l) : RowOf f n w' A l := fun hl => by
 obtain ⟨b, o, e, hx⟩ := h hl; exact ⟨b, o, e, fun i hi => hf _ _ _ (hx i hi)⟩
theorem RowOf.at {α : Type} {f : World → Nat → Nat → α → Prop} {n : Nat} {w : World} {A : Option Addr} {l : List α} (h : RowOf f n w A l) {i : Nat} (hi : i < l.length) : ∃ b o, A = some ⟨b, o, none⟩ ∧ f w b (o + n * i) l[i] := by
 obtain ⟨b, o, e, hx⟩ := h (by omega); exact ⟨b, o, e, hx i hi⟩
structure EnvAt (E : Env) (w : World) (Fa Ca Aa : Option Addr) : Prop where
 files : RowOf FileAt 4 w Fa E.files
 classes : RowOf ClassAt 7 w Ca E.classes
 args : RowOf ArgAt 2 w Aa E.args
theorem EnvAt.fr {E : Env} {w w' : World} {Fa Ca Aa : Option Addr} (h : EnvAt E w Fa Ca Aa) (k : Fr w w') : EnvAt E w' Fa Ca Aa :=
 ⟨h.files.fr fun _ _ _ x => x.fr k, h.classes.fr fun _ _ _ x => x.fr k, h.args.fr fun _ _ _ x => x.fr k⟩
end Go.Proofs.YtdipnhghdajplaaGreatDoor
