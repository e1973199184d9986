/- Trees, and texts read as trees by a machine with a stack: plain; nothing of the program. What a call leaves in memory, and rows of cells that read as lists; nothing of the program. Trees in memory: what rows of cells read as; nothing of the program. The machine's steps; nothing of the program. The tests on one byte. How long a run is; whether all bytes are a text's. Blocks known whole; a frame that lets one block go; the reader's own block; the listed variables. The reader's skip. The reader's quoted. Numbers as digits: plain; nothing of the program. The reader's run. The reader's run: words. Atoi and Itoa, as the reader uses them. The reader's run: digits that Atoi refuses. The reader's run: digits of a number that is out of bounds. The reader's run: digits that no number writes. The reader's run: numbers. What the reader's tree and trees answer, said by the machine. The reader's tree at a list. -/
import Derived.WalkKit
import Derived.Lib.Hide
import GoSem.Claim
import Derived.Deep.Draws
import Derived.Laws.OwnMore
import Derived.Maps.AppendAt
import Derived.Deep.AppendLies
import Derived.Test.YtdipnhghdajplaaGreatDoorProg
import Derived.WalkLawsBesides
import Derived.Deep.QuietTactic
import Derived.BigQuiet
import Derived.Deep.LoopGhost
import Derived.Outline
import Derived.WalkSpells
import Derived.Lib.ItoaNum
import Derived.Lib.AtoiAllCases
import Derived.Lib.AtoiTie
import Derived.Laws.Closers25
import Derived.Deep.RegionWith
import Derived.Lib.AtoiErrMem
import Derived.Sort.Grow
namespace Go.Proofs.YtdipnhghdajplaaGreatDoor
open Go.RowKit
set_option linter.unusedSimpArgs false
set_option linter.unusedVariables false

/-- A tree: its kind, its word, its number, what it holds. -/
inductive T where
  | node (k : Int) (s : ByteArray) (n : Int) (ks : List T)
/-- The bytes of a run; of a text; what a number begins with. -/
def inB (c : UInt8) : Bool := decide (32 < c.toNat ∧ c.toNat < 127 ∧ c.toNat ≠ 40 ∧ c.toNat ≠ 41 ∧ c.toNat ≠ 34 ∧ c.toNat ≠ 59)
def txB (c : UInt8) : Bool := decide (32 ≤ c.toNat ∧ c.toNat ≤ 126 ∧ c.toNat ≠ 34)
def nuB (c : UInt8) : Bool := decide (c.toNat = 45 ∨ (48 ≤ c.toNat ∧ c.toNat ≤ 57))
/-- A text behind its quote: closed behind so many bytes; a byte that is none; not closed. -/
inductive Q where
  | closed (m : Nat)
  | wrong (m : Nat)
  | unclosed
def textL : List UInt8 → Nat → Q
  | [], _ => .unclosed
  | c :: r, m => if c.toNat = 10 then .unclosed else if c.toNat = 34 then .closed m else if txB c then textL r (m + 1) else .wrong m
/-- How many bytes are blanks and remarks; the flag: within a remark. -/
def skN : Bool → List UInt8 → Nat
  | _, [] => 0
  | true, c :: r => if c.toNat = 10 then skN false r + 1 else skN true r + 1
  | false, c :: r => if c.toNat = 32 ∨ c.toNat = 10 then skN false r + 1 else if c.toNat = 59 then skN true r + 1 else 0
/-- How long a run is. -/
def ruN : List UInt8 → Nat
  | [] => 0
  | c :: r => if inB c then ruN r + 1 else 0
/-- The number that digits write, the ones ahead told. -/
def digL : Int → List UInt8 → Option Int
  | a, [] => some a
  | a, c :: r => if 48 ≤ c.toNat ∧ c.toNat ≤ 57 then digL (a * 10 + ((c.toNat : Int) - 48)) r else none
/-- The number that a run writes. -/
def magL (neg : Bool) (d : List UInt8) : Option Int :=
  match d with
  | [] => none
  | c :: r => if 18 < d.length ∨ (c.toNat = 48 ∧ (neg = true ∨ r ≠ [])) then none else (digL 0 d).map (fun n => if neg then -n else n)
def numL : List UInt8 → Option Int
  | [] => none
  | c :: r => if c.toNat = 45 then magL true r else magL false (c :: r)
/-- A token that is a tree by itself: the place (from its own) where it is wrong; else the tree and its length. -/
def leaf (c : UInt8) (r : List UInt8) : Nat ⊕ (T × Nat) :=
  if c.toNat = 34 then
    match textL r 0 with
    | .closed m => .inr (.node 3 ⟨(r.take m).toArray⟩ 0 [], m + 2)
    | .wrong m => .inl (m + 1)
    | .unclosed => .inl 0
  else if inB c then
    if nuB c then
      match numL ((c :: r).take (ruN (c :: r))) with
      | some n => .inr (.node 2 ⟨#[]⟩ n [], ruN (c :: r))
      | none => .inl 0
    else .inr (.node 1 ⟨((c :: r).take (ruN (c :: r))).toArray⟩ 0 [], ruN (c :: r))
  else .inl 0
inductive Res where
  | ok (l : List T)
  | err (at_ : Nat) (e : Int)
/-- The machine: the text, the place, the lists that are open (the innermost first), how many trees have begun. -/
def go : Nat → List UInt8 → Nat → List (List T) → Nat → Res
  | 0, _, i, _, _ => .err i 0
  | f + 1, L, i, st, k =>
    match L.drop (i + skN false (L.drop i)) with
    | [] => match st with
      | [top] => .ok top
      | _ => .err (i + skN false (L.drop i)) 31
    | c :: r =>
      if c.toNat = 41 then
        match st with
        | cur :: par :: rest => go f L (i + skN false (L.drop i) + 1) ((par ++ [.node 4 ⟨#[]⟩ 0 cur]) :: rest) k
        | _ => .err (i + skN false (L.drop i)) 31
      else if c.toNat = 40 then
        if 65536 < k + 1 ∨ 32 < st.length then .err (i + skN false (L.drop i)) 33
        else go f L (i + skN false (L.drop i) + 1) ([] :: st) (k + 1)
      else match leaf c r with
        | .inl d => .err (i + skN false (L.drop i) + d) 31
        | .inr (t, n) => if 65536 < k + 1 then .err (i + skN false (L.drop i)) 33
          else match st with
            | cur :: rest => go f L (i + skN false (L.drop i) + n) ((cur ++ [t]) :: rest) (k + 1)
            | [] => .err (i + skN false (L.drop i)) 0
/-- With as many rounds as there are bytes. -/
def run (L : List UInt8) (i : Nat) (st : List (List T)) (k : Nat) : Res := go (L.length + 1 - i) L i st k

theorem textL_le {r : List UInt8} {a m : Nat} (h : textL r a = .closed m) : a ≤ m ∧ m - a < r.length := by
  induction r generalizing a with
  | nil => cases h
  | cons c r ih =>
    unfold textL at h
    split at h
    · cases h
    · split at h
      · injection h with h; subst h; simp
      · split at h
        · have := ih h; simp; omega
        · cases h
theorem ruN_le (l : List UInt8) : ruN l ≤ l.length := by
  induction l with
  | nil => simp [ruN]
  | cons c r ih => unfold ruN; split <;> simp <;> omega
theorem ruN_pos {c : UInt8} {r : List UInt8} (h : inB c = true) : 0 < ruN (c :: r) := by unfold ruN; rw [if_pos h]; omega
theorem skN_le (b : Bool) (l : List UInt8) : skN b l ≤ l.length := by
  induction l generalizing b with
  | nil => cases b <;> simp [skN]
  | cons c r ih =>
    have h1 := ih true
    have h2 := ih false
    cases b
    · unfold skN; split
      · simp; omega
      · split <;> simp; omega
    · unfold skN; split <;> simp <;> omega
theorem leaf_len {c : UInt8} {r : List UInt8} {t : T} {n : Nat} (h : leaf c r = .inr (t, n)) : 0 < n ∧ n ≤ r.length + 1 := by
  unfold leaf at h
  split at h
  · split at h
    · next m e => injection h with h; injection h with _ h; subst h; have := textL_le e; omega
    · cases h
    · cases h
  · split at h
    · next hb =>
      have h1 := ruN_pos (r := r) hb
      have h2 := ruN_le (c :: r)
      simp at h2
      split at h
      · split at h
        · injection h with h; injection h with _ h; omega
        · cases h
      · injection h with h; injection h with _ h; omega
    · cases h
theorem go_fuel (f : Nat) : ∀ (f' : Nat) (L : List UInt8) (i : Nat) (st : List (List T)) (k : Nat), L.length < i + f → L.length < i + f' → i ≤ L.length → go f L i st k = go f' L i st k := by
  induction f with
  | zero => intro f' L i st k h _ h2; omega
  | succ f ih =>
    intro f' L i st k h h' h2
    obtain ⟨g, rfl⟩ : ∃ g, f' = g + 1 := ⟨f' - 1, by omega⟩
    have hs := skN_le false (L.drop i)
    simp at hs
    unfold go
    generalize hj : i + skN false (L.drop i) = j at *
    cases hd : L.drop j with
    | nil => rfl
    | cons c r =>
      have hl : r.length + 1 = L.length - j := by have := congrArg List.length hd; simp at this; omega
      have hjl : j < L.length := by omega
      simp only
      split
      · split
        · exact ih g L (j + 1) _ _ (by omega) (by omega) (by omega)
        · rfl
      · split
        · split
          · rfl
          · exact ih g L (j + 1) _ _ (by omega) (by omega) (by omega)
        · split
          · rfl
          · next t n e =>
            have hn := leaf_len e
            split
            · rfl
            · split
              · exact ih g L (j + n) _ _ (by omega) (by omega) (by omega)
              · rfl
end Go.Proofs.YtdipnhghdajplaaGreatDoor
namespace Go.Proofs.YtdipnhghdajplaaGreatDoor
open Go.RowKit

/-- Nothing that was there has turned. -/
def Fr (w w' : World) : Prop := Below w.heap.size w w'
theorem Fr.refl (w : World) : Fr w w := Below.refl _ _
theorem Fr.alloc {w a : World} (h : Fr w a) (o : Obj) : Fr w (a.alloc o) := Below.alloc h h.size o
theorem Fr.drew {w a : World} (h : Fr w a) : Fr w a.drew := Below.drew h
theorem Fr.drewN {w a : World} (h : Fr w a) (n : Nat) : Fr w (a.drewN n) := Below.trans h ⟨rfl, rfl, rfl, Nat.le_refl _, fun _ _ => rfl⟩
theorem Fr.set {w a : World} (h : Fr w a) {p : Addr} (hp : w.heap.size ≤ p.block) (v : Value) : Fr w (a.setCell p v) := Below.setCell h hp v
theorem Fr.call {w a b : World} (h : Fr w a) (k : Fr a b) : Fr w b := Below.trans h (Below.mono k h.size)
theorem Fr.size {W w1 : World} (hb : Fr W w1) : W.heap.size ≤ w1.heap.size := Below.size hb
theorem Fr.cells {W w1 : World} (hb : Fr W w1) : (∀ b o, b < W.heap.size → w1.cell? ⟨b, o, none⟩ = W.cell? ⟨b, o, none⟩) ∧ (∀ b o, b < W.heap.size → w1.frozen? ⟨b, o, none⟩ = W.frozen? ⟨b, o, none⟩) ∧ W.heap.size ≤ w1.heap.size :=
  ⟨fun b o h => Below.cell hb (p := ⟨b, o, none⟩) h, fun b o h => Below.frozen hb (p := ⟨b, o, none⟩) h, hb.size⟩
theorem lt_of_cell {W : World} {b o : Nat} {v : Value} (h : W.cell? ⟨b, o, none⟩ = some v) : b < W.heap.size := by
  by_cases hb : b < W.heap.size
  · exact hb
  · have e : W.heap[b]? = none := by simp; omega
    simp [World.cell?, e] at h
theorem Fr.get {W w1 : World} (hb : Fr W w1) {b o : Nat} {v : Value} (h : W.cell? ⟨b, o, none⟩ = some v) : w1.cell? ⟨b, o, none⟩ = some v :=
  (hb.cells.1 b o (lt_of_cell h)).trans h
theorem Fr.free {W w1 : World} (hb : Fr W w1) {b o : Nat} {v : Value} (h : W.cell? ⟨b, o, none⟩ = some v) (hf : W.frozen? ⟨b, o, none⟩ = false) : w1.frozen? ⟨b, o, none⟩ = false :=
  (hb.cells.2.1 b o (lt_of_cell h)).trans hf

/-- The row at A reads as the list l, each thing x as the cell f x. -/
def Rd {α : Type} (f : α → Value) (w : World) (A : Option Addr) (l : List α) : Prop :=
  0 < l.length → ∃ g o, A = some ⟨g, o, none⟩ ∧ g < w.heap.size ∧ ∀ (i : Nat) (h : i < l.length), w.cell? ⟨g, o + i, none⟩ = some (f l[i])

section
variable {α : Type} {f : α → Value} {w w' : World} {A : Option Addr} {l : List α}
theorem Rd.nil : Rd f w A ([] : List α) := fun h => absurd h (by simp)
theorem Rd.fr (h : Rd f w A l) (k : Fr w w') : Rd f w' A l := fun hl => by
  obtain ⟨g, o, e, hg, hc⟩ := h hl
  exact ⟨g, o, e, Nat.lt_of_lt_of_le hg k.size, fun i hi => k.get (hc i hi)⟩
theorem Rd.alloc (h : Rd f w A l) (o : Obj) : Rd f (w.alloc o) A l := h.fr ((Fr.refl w).alloc o)
theorem Rd.drew (h : Rd f w A l) : Rd f w.drew A l := h
theorem Rd.drewN (h : Rd f w A l) (n : Nat) : Rd f (w.drewN n) A l := h.fr ((Fr.refl w).drewN n)
/-- A part of it: from k on, n things. -/
theorem Rd.part (h : Rd f w A l) (k n : Nat) (hk : k + n ≤ l.length) {B : Option Addr} (hB : 0 < n → B = A.map (·.add k)) : Rd f w B ((l.drop k).take n) := fun hl => by
  have hl' : 0 < n ∧ k < l.length := by simp at hl; omega
  obtain ⟨g, o, rfl, hg, hc⟩ := h (by omega)
  refine ⟨g, o + k, ?_, hg, fun i hi => ?_⟩
  · rw [hB hl'.1]; unfold Addr.add; by_cases h0 : k = 0 <;> simp [h0]
  · have hi' : i < n ∧ k + i < l.length := by simp at hi; omega
    have := hc (k + i) hi'.2
    simp only [List.getElem_take, List.getElem_drop]
    rw [Nat.add_assoc]; exact this
theorem Rd.rest (h : Rd f w A l) (k : Nat) (hk : k ≤ l.length) {B : Option Addr} (hB : k < l.length → B = A.map (·.add k)) : Rd f w B (l.drop k) := by
  have e : l.drop k = (l.drop k).take (l.length - k) := by rw [List.take_of_length_le (by simp)]
  rw [e]; exact h.part k _ (by omega) (fun h => hB (by omega))
theorem Rd.front (h : Rd f w A l) (n : Nat) (hn : n ≤ l.length) : Rd f w A (l.take n) := by
  have e : l.take n = (l.drop 0).take n := by simp
  rw [e]; exact h.part 0 n (by omega) (fun _ => by cases A <;> simp [Addr.add])
theorem Rd.of_own {base c : Nat} {e : TypeId} (h : w.ownsRow base e 1 (.slice A l.length c) l.length (l.map f)) : Rd f w A l := fun hl => by
  obtain ⟨g, cap, hv, _, hlt⟩ := h.form hl
  have hA : A = some ⟨g, 0, none⟩ := by injection hv
  subst hA
  refine ⟨g, 0, rfl, hlt, fun i hi => ?_⟩
  have := h.cells (g := g) rfl i (f l[i]) (by simp [List.getElem?_eq_getElem hi])
  rw [Nat.zero_add]
  rw [show (⟨g, i, none⟩ : Addr) = (⟨g, 0, none⟩ : Addr).add i by unfold Addr.add; by_cases h0 : i = 0 <;> simp [h0]]
  exact this
/-- The cells that an append or a copy reads. -/
theorem Rd.adds (h : Rd f w A l) (hl : 0 < l.length) : ∃ ad, A = some ad ∧ ∀ j u, (l.map f)[j]? = some u → w.cell? (ad.add j) = some u := by
  obtain ⟨g, o, rfl, _, hc⟩ := h hl
  refine ⟨_, rfl, fun j u hu => ?_⟩
  have hj : j < l.length := by
    have := (List.getElem?_eq_some_iff.1 hu).1
    simpa using this
  have e : u = f l[j] := by simp [List.getElem?_eq_getElem hj] at hu; exact hu.symm
  rw [e, show (⟨g, o, none⟩ : Addr).add j = ⟨g, o + j, none⟩ by unfold Addr.add; by_cases h0 : j = 0 <;> simp [h0]]
  exact hc j hj
end

theorem ret2_eq {x y x' y' : Value} (h : x = x') (k : y = y') : Ending.returned (.tuple #[x, y]) = Ending.returned (.tuple #[x', y']) := by rw [h, k]
theorem ret_eq {x x' : Value} (h : x = x') : Ending.returned x = Ending.returned x' := by rw [h]
theorem ret_int {k : IntKind} {a b : Int} (h : a = b) : Ending.returned (.int k a) = .returned (.int k b) := by rw [h]
theorem ret_bool {a b : Bool} (h : a = b) : Ending.returned (.bool a) = .returned (.bool b) := by rw [h]
end Go.Proofs.YtdipnhghdajplaaGreatDoor
namespace Go.Proofs.YtdipnhghdajplaaGreatDoor
open Go.RowKit
set_option linter.unusedSimpArgs false
set_option linter.unusedVariables false

mutual
/-- The row at A reads as the trees l, all of it in blocks of F. -/
def RdL (w : World) (F : Nat → Prop) : Option Addr → List T → Prop
  | _, [] => True
  | A, t :: r => ∃ b o, A = some ⟨b, o, none⟩ ∧ F b ∧ RdT w F b o t ∧ RdL w F (some ⟨b, o + 4, none⟩) r
/-- The four cells at a place read as a tree. -/
def RdT (w : World) (F : Nat → Prop) : Nat → Nat → T → Prop
  | b, o, .node k s n ks => ∃ A c, ks.length ≤ c ∧ w.cell? ⟨b, o, none⟩ = some (.int .i64 k) ∧ w.cell? ⟨b, o + 1, none⟩ = some (.string s) ∧ w.cell? ⟨b, o + 2, none⟩ = some (.int .i64 n) ∧
      w.cell? ⟨b, o + 3, none⟩ = some (.slice A ks.length c) ∧ RdL w F A ks
end
/-- So many cells read as the trees l, what they hold in blocks of F. -/
def Fits (w : World) (F : Nat → Prop) : List T → List Value → Prop
  | [], vs => vs = []
  | .node k s n ks :: r, vs => ∃ A c vs', vs = .int .i64 k :: .string s :: .int .i64 n :: .slice A ks.length c :: vs' ∧ ks.length ≤ c ∧ RdL w F A ks ∧ Fits w F r vs'
theorem cell_of_heap {w w' : World} {b o : Nat} (h : w'.heap[b]? = w.heap[b]?) : w'.cell? ⟨b, o, none⟩ = w.cell? ⟨b, o, none⟩ := by
  unfold World.cell?; rw [h]
mutual
theorem RdL.mono {w w' : World} {F F' : Nat → Prop} (hF : ∀ b, F b → F' b) (hw : ∀ b, F b → w'.heap[b]? = w.heap[b]?) : ∀ {l : List T} {A : Option Addr}, RdL w F A l → RdL w' F' A l
  | [], _, _ => by unfold RdL; trivial
  | t :: r, A, h => by
    unfold RdL at h ⊢
    obtain ⟨b, o, e, hb, ht, hr⟩ := h
    exact ⟨b, o, e, hF b hb, RdT.mono hF hw hb ht, RdL.mono hF hw hr⟩
theorem RdT.mono {w w' : World} {F F' : Nat → Prop} (hF : ∀ b, F b → F' b) (hw : ∀ b, F b → w'.heap[b]? = w.heap[b]?) : ∀ {t : T} {b o : Nat}, F b → RdT w F b o t → RdT w' F' b o t
  | .node k s n ks, b, o, hb, h => by
    unfold RdT at h ⊢
    obtain ⟨A, c, hc, h0, h1, h2, h3, hk⟩ := h
    exact ⟨A, c, hc, (cell_of_heap (hw b hb)).trans h0, (cell_of_heap (hw b hb)).trans h1, (cell_of_heap (hw b hb)).trans h2, (cell_of_heap (hw b hb)).trans h3, RdL.mono hF hw hk⟩
end
theorem Fits.mono {w w' : World} {F F' : Nat → Prop} (hF : ∀ b, F b → F' b) (hw : ∀ b, F b → w'.heap[b]? = w.heap[b]?) : ∀ {l : List T} {vs : List Value}, Fits w F l vs → Fits w' F' l vs
  | [], _, h => h
  | .node k s n ks :: r, vs, h => by
    unfold Fits at h ⊢
    obtain ⟨A, c, vs', e, hc, hk, hr⟩ := h
    exact ⟨A, c, vs', e, hc, hk.mono hF hw, Fits.mono hF hw hr⟩
theorem Fits.length {w : World} {F : Nat → Prop} : ∀ {l : List T} {vs : List Value}, Fits w F l vs → vs.length = 4 * l.length
  | [], vs, h => by unfold Fits at h; subst h; rfl
  | .node k s n ks :: r, vs, h => by
    unfold Fits at h
    obtain ⟨A, c, vs', e, hc, hk, hr⟩ := h
    subst e
    have := Fits.length hr
    simp; omega
theorem Fits.snoc {w : World} {F : Nat → Prop} {k n : Int} {s : ByteArray} {ks : List T} {A : Option Addr} {c : Nat} (hc : ks.length ≤ c) (hk : RdL w F A ks) :
    ∀ {l : List T} {vs : List Value}, Fits w F l vs → Fits w F (l ++ [.node k s n ks]) (vs ++ [.int .i64 k, .string s, .int .i64 n, .slice A ks.length c])
  | [], vs, h => by
    unfold Fits at h; subst h
    simp only [List.nil_append]
    unfold Fits
    exact ⟨A, c, [], rfl, hc, hk, by unfold Fits; rfl⟩
  | .node k' s' n' ks' :: r, vs, h => by
    unfold Fits at h
    obtain ⟨A', c', vs', e, hc', hk', hr⟩ := h
    subst e
    simp only [List.cons_append]
    unfold Fits
    exact ⟨A', c', _, rfl, hc', hk', Fits.snoc hc hk hr⟩
/-- Cells that lie in a row are a row that reads so. -/
theorem RdL.of_fits {w : World} {F : Nat → Prop} {b : Nat} (hb : F b) : ∀ {l : List T} {vs : List Value} {o : Nat}, Fits w F l vs → (∀ i u, vs[i]? = some u → w.cell? ⟨b, o + i, none⟩ = some u) → RdL w F (some ⟨b, o, none⟩) l
  | [], _, _, _, _ => by unfold RdL; trivial
  | .node k s n ks :: r, vs, o, h, hv => by
    unfold Fits at h
    obtain ⟨A, c, vs', e, hc, hk, hr⟩ := h
    subst e
    unfold RdL RdT
    refine ⟨b, o, rfl, hb, ⟨A, c, hc, hv 0 _ rfl, hv 1 _ rfl, hv 2 _ rfl, hv 3 _ rfl, hk⟩, RdL.of_fits hb hr fun i u hu => ?_⟩
    have := hv (i + 4) u (by simpa using hu)
    rwa [show o + (i + 4) = o + 4 + i by omega] at this
/-- An element of a row. -/
theorem RdL.elem {w : World} {F : Nat → Prop} : ∀ {l : List T} {A : Option Addr} (i : Nat) (hi : i < l.length), RdL w F A l → ∃ b o, A = some ⟨b, o, none⟩ ∧ F b ∧ RdT w F b (o + 4 * i) l[i]
  | t :: r, A, 0, _, h => by
    unfold RdL at h
    obtain ⟨b, o, e, hb, ht, _⟩ := h
    exact ⟨b, o, e, hb, ht⟩
  | t :: r, A, i + 1, hi, h => by
    unfold RdL at h
    obtain ⟨b, o, e, hb, _, hr⟩ := h
    obtain ⟨b', o', e', hb', ht⟩ := RdL.elem (l := r) i (by simpa using hi) hr
    injection e' with e'
    injection e' with e1 e2
    subst e1 e2
    refine ⟨b, o, e, hb', ?_⟩
    rw [show o + 4 * (i + 1) = o + 4 + 4 * i by omega]
    exact ht
end Go.Proofs.YtdipnhghdajplaaGreatDoor
namespace Go.Proofs.YtdipnhghdajplaaGreatDoor
open Go.RowKit
set_option linter.unusedSimpArgs false
set_option linter.unusedVariables false

theorem skN_idem (b : Bool) (l : List UInt8) : skN false (l.drop (skN b l)) = 0 := by
  induction l generalizing b with
  | nil => cases b <;> simp [skN]
  | cons c r ih =>
    cases b
    · by_cases h1 : c.toNat = 32 ∨ c.toNat = 10
      · rw [show skN false (c :: r) = skN false r + 1 by rw [skN, if_pos h1], List.drop_succ_cons]; exact ih false
      · by_cases h2 : c.toNat = 59
        · rw [show skN false (c :: r) = skN true r + 1 by rw [skN, if_neg h1, if_pos h2], List.drop_succ_cons]; exact ih true
        · have e : skN false (c :: r) = 0 := by rw [skN, if_neg h1, if_neg h2]
          rw [e, List.drop_zero, e]
    · by_cases h1 : c.toNat = 10
      · rw [show skN true (c :: r) = skN false r + 1 by rw [skN, if_pos h1], List.drop_succ_cons]; exact ih false
      · rw [show skN true (c :: r) = skN true r + 1 by rw [skN, if_neg h1], List.drop_succ_cons]; exact ih true
theorem go_at (f : Nat) (L : List UInt8) (i : Nat) (st : List (List T)) (k : Nat) : go (f + 1) L i st k = go (f + 1) L (i + skN false (L.drop i)) st k := by
  have e : skN false (L.drop (i + skN false (L.drop i))) = 0 := by
    have h := skN_idem false (L.drop i)
    rwa [List.drop_drop] at h
  conv => lhs; unfold go
  conv => rhs; unfold go
  simp only [e, Nat.add_zero]
theorem run_at (L : List UInt8) (i : Nat) (st : List (List T)) (k : Nat) (h : i ≤ L.length) : run L i st k = run L (i + skN false (L.drop i)) st k := by
  have hs := skN_le false (L.drop i)
  simp at hs
  unfold run
  rw [show L.length + 1 - i = (L.length - i) + 1 by omega, go_at]
  exact go_fuel _ _ L _ st k (by omega) (by omega) (by omega)
section
variable {L : List UInt8} {j k : Nat} {c : UInt8} {r : List UInt8}
theorem drop_len (hd : L.drop j = c :: r) : j < L.length := by
  have := congrArg List.length hd
  simp at this; omega
/-- Not a blank, no remark. -/
def Nb (c : UInt8) : Prop := ¬ (c.toNat = 32 ∨ c.toNat = 10) ∧ ¬ c.toNat = 59
theorem skN_nb (h : Nb c) : skN false (c :: r) = 0 := by rw [skN, if_neg h.1, if_neg h.2]
theorem run_body (st : List (List T)) (hd : L.drop j = c :: r) (h : Nb c) :
    run L j st k = (if c.toNat = 41 then
        match st with
        | cur :: par :: rest => run L (j + 1) ((par ++ [.node 4 ⟨#[]⟩ 0 cur]) :: rest) k
        | _ => .err j 31
      else if c.toNat = 40 then
        if 65536 < k + 1 ∨ 32 < st.length then .err j 33
        else run L (j + 1) ([] :: st) (k + 1)
      else match leaf c r with
        | .inl d => .err (j + d) 31
        | .inr (t, n) => if 65536 < k + 1 then .err j 33
          else match st with
            | cur :: rest => run L (j + n) ((cur ++ [t]) :: rest) (k + 1)
            | [] => .err j 0) := by
  have hl := drop_len hd
  have hr : r.length + 1 = L.length - j := by have := congrArg List.length hd; simp at this; omega
  have e1 : run L j st k = go (L.length - j + 1) L j st k := by unfold run; rw [show L.length + 1 - j = (L.length - j) + 1 by omega]
  rw [e1]
  unfold go
  simp only [hd, skN_nb h, Nat.add_zero]
  rcases hlf : leaf c r with d | ⟨t, n⟩
  · rcases st with _ | ⟨a, _ | ⟨b, rest⟩⟩
    all_goals
      simp only
      split
      · first | rfl | exact go_fuel _ _ L _ _ _ (by omega) (by omega) (by omega)
      · split
        · split
          · rfl
          · exact go_fuel _ _ L _ _ _ (by omega) (by omega) (by omega)
        · rfl
  · have hn := leaf_len hlf
    rcases st with _ | ⟨a, _ | ⟨b, rest⟩⟩
    all_goals
      simp only
      split
      · first | rfl | exact go_fuel _ _ L _ _ _ (by omega) (by omega) (by omega)
      · split
        · split
          · rfl
          · exact go_fuel _ _ L _ _ _ (by omega) (by omega) (by omega)
        · split
          · rfl
          · first | rfl | exact go_fuel _ _ L _ _ _ (by omega) (by omega) (by omega)
theorem run_end (top : List T) : run L L.length [top] k = .ok top := by
  unfold run
  rw [show L.length + 1 - L.length = 0 + 1 by omega]
  unfold go
  simp [skN]
theorem run_end_open (a b : List T) (rest : List (List T)) : run L L.length (a :: b :: rest) k = .err L.length 31 := by
  unfold run
  rw [show L.length + 1 - L.length = 0 + 1 by omega]
  unfold go
  simp [skN]
theorem run_cls {cur par : List T} {rest : List (List T)} (hd : L.drop j = c :: r) (hc : c.toNat = 41) : run L j (cur :: par :: rest) k = run L (j + 1) ((par ++ [.node 4 ⟨#[]⟩ 0 cur]) :: rest) k := by
  rw [run_body _ hd ⟨by omega, by omega⟩, if_pos hc]
theorem run_cls_top {cur : List T} (hd : L.drop j = c :: r) (hc : c.toNat = 41) : run L j [cur] k = .err j 31 := by
  rw [run_body _ hd ⟨by omega, by omega⟩, if_pos hc]
theorem run_opn {st : List (List T)} (hd : L.drop j = c :: r) (hc : c.toNat = 40) (h1 : k < 65536) (h2 : st.length ≤ 32) : run L j st k = run L (j + 1) ([] :: st) (k + 1) := by
  rw [run_body _ hd ⟨by omega, by omega⟩, if_neg (by omega), if_pos hc, if_neg (by omega)]
theorem run_opn_no {st : List (List T)} (hd : L.drop j = c :: r) (hc : c.toNat = 40) (h : 65536 ≤ k ∨ 32 < st.length) : run L j st k = .err j 33 := by
  rw [run_body _ hd ⟨by omega, by omega⟩, if_neg (by omega), if_pos hc, if_pos (by omega)]
theorem run_leaf {t : T} {n : Nat} {cur : List T} {rest : List (List T)} (hd : L.drop j = c :: r) (h : Nb c) (h1 : c.toNat ≠ 41) (h2 : c.toNat ≠ 40) (hl : leaf c r = .inr (t, n)) (hk : k < 65536) : run L j (cur :: rest) k = run L (j + n) ((cur ++ [t]) :: rest) (k + 1) := by
  rw [run_body _ hd h, if_neg h1, if_neg h2, hl]
  simp only
  rw [if_neg (by omega)]
theorem run_leaf_many {t : T} {n : Nat} {st : List (List T)} (hd : L.drop j = c :: r) (h : Nb c) (h1 : c.toNat ≠ 41) (h2 : c.toNat ≠ 40) (hl : leaf c r = .inr (t, n)) (hk : 65536 ≤ k) : run L j st k = .err j 33 := by
  rw [run_body _ hd h, if_neg h1, if_neg h2, hl]
  simp only
  rw [if_pos (by omega)]
theorem run_leaf_bad {d : Nat} {st : List (List T)} (hd : L.drop j = c :: r) (h : Nb c) (h1 : c.toNat ≠ 41) (h2 : c.toNat ≠ 40) (hl : leaf c r = .inl d) : run L j st k = .err (j + d) 31 := by
  rw [run_body _ hd h, if_neg h1, if_neg h2, hl]
end
end Go.Proofs.YtdipnhghdajplaaGreatDoor
namespace Go.Proofs.YtdipnhghdajplaaGreatDoor
open Go.RowKit
set_option linter.unusedSimpArgs false
set_option linter.unusedVariables false

theorem txB_int {c : UInt8} {m : Int} (h : (c.toNat : Int) = m) : txB c = decide (32 ≤ m ∧ m ≤ 126 ∧ m ≠ 34) := by unfold txB; exact decide_eq_decide.2 (by omega)
theorem inB_int {c : UInt8} {m : Int} (h : (c.toNat : Int) = m) : inB c = decide (32 < m ∧ m < 127 ∧ m ≠ 40 ∧ m ≠ 41 ∧ m ≠ 34 ∧ m ≠ 59) := by unfold inB; exact decide_eq_decide.2 (by omega)
theorem nuB_int {c : UInt8} {m : Int} (h : (c.toNat : Int) = m) : nuB c = decide (m = 45 ∨ (48 ≤ m ∧ m ≤ 57)) := by unfold nuB; exact decide_eq_decide.2 (by omega)
set_option maxHeartbeats 1600000 in
theorem in_any (c : UInt8) (w : World) : Calls Tryz.prog 118 #[.int .u8 (c.toNat : Int)] w fun e w' => e = .returned (.bool (inB c)) ∧ w = w' := by
  have hc := c.toNat_lt
  obtain ⟨m, hm⟩ : ∃ m : Int, (c.toNat : Int) = m := ⟨_, rfl⟩
  rw [inB_int hm, hm]
  have h0 : 0 ≤ m := by omega
  have h1 : m < 256 := by omega
  clear hm hc
  generalize hq : decide (32 < m ∧ m < 127 ∧ m ≠ 40 ∧ m ≠ 41 ∧ m ≠ 34 ∧ m ≠ 59) = q
  have HQ := Lib.hid hq
  clear hq
  go_enter Tryz.func118, Tryz.ntmps118
  go_wp2
  all_goals
    go_ret
    exact ⟨ret_bool (by rw [← HQ.out, Bool.eq_iff_iff]; simp; try omega), rfl⟩
end Go.Proofs.YtdipnhghdajplaaGreatDoor
namespace Go.Proofs.YtdipnhghdajplaaGreatDoor
open Go.RowKit
set_option linter.unusedSimpArgs false
set_option linter.unusedVariables false

theorem drop_at (s : ByteArray) (k : Nat) (h : k < s.size) : s.data.toList.drop k = s[k] :: s.data.toList.drop (k + 1) := by
  have h2 : k < s.data.toList.length := by simpa using h
  rw [List.drop_eq_getElem_cons h2]; rfl
theorem drop_all (s : ByteArray) : s.data.toList.drop s.size = [] := by simp
def RelR (s : ByteArray) (i : Value) : Prop := ∃ k : Nat, k ≤ s.size ∧ i = .int .i64 (k : Int) ∧ ruN s.data.toList = k + ruN (s.data.toList.drop k)
end Go.Proofs.YtdipnhghdajplaaGreatDoor
namespace Go.Proofs.YtdipnhghdajplaaGreatDoor
open Go.RowKit
set_option linter.unusedSimpArgs false
set_option linter.unusedVariables false

/-- A block that is known whole. -/
def Bk (w : World) (g : Nat) (t : TypeId) (cs : Array Value) : Prop := w.heap[g]? = some (.cells cs t (0, 0))
section
variable {w w' : World} {g : Nat} {t : TypeId} {cs : Array Value}
theorem Bk.cell (h : Bk w g t cs) (i : Nat) : w.cell? ⟨g, i, none⟩ = cs[i]? := cell_of_row w g i cs t (0, 0) h
theorem Bk.free (h : Bk w g t cs) (i : Nat) : w.frozen? ⟨g, i, none⟩ = false := by
  unfold Bk at h
  simp [World.frozen?, h]
theorem Bk.lt (h : Bk w g t cs) : g < w.heap.size := by
  rcases Nat.lt_or_ge g w.heap.size with hlt | hge
  · exact hlt
  · unfold Bk at h; rw [Array.getElem?_eq_none hge] at h; cases h
theorem Bk.new (w : World) (t : TypeId) (cs : Array Value) : Bk (w.alloc (.cells cs t)) w.heap.size t cs := heap_alloc_new w _
theorem Bk.set (h : Bk w g t cs) (i : Nat) (u : Value) : Bk (w.setCell ⟨g, i, none⟩ u) g t (cs.setIfInBounds i u) := by
  unfold Bk at h ⊢
  simp [World.setCell, Array.getElem?_modify, h]
theorem Bk.far (h : Bk w g t cs) {p : Addr} (hp : g ≠ p.block) (u : Value) : Bk (w.setCell p u) g t cs := (Below.heap_setCell w p u g hp).trans h
theorem Bk.fr (h : Bk w g t cs) (k : Fr w w') : Bk w' g t cs := by
  have hl := h.lt
  unfold Bk at h ⊢
  rw [k.block g hl]; exact h
theorem Bk.alloc (h : Bk w g t cs) (o : Obj) : Bk (w.alloc o) g t cs := h.fr ((Fr.refl w).alloc o)
end
/-- Nothing that was there has turned but the block p. -/
def Wr (p : Nat) (w w' : World) : Prop := w.grownBy w' (some p)
section
variable {p : Nat} {a b c w w' : World}
theorem Wr.refl (p : Nat) (w : World) : Wr p w w := World.grownBy.refl w _
theorem Wr.of (h : Fr a b) : Wr p a b := ⟨h.os, h.tape, h.output, h.size, fun k hk _ => h.block k hk⟩
theorem Wr.size (h : Wr p a b) : a.heap.size ≤ b.heap.size := World.grownBy.size h
theorem Wr.call (h : Wr p a b) (k : Wr p b c) : Wr p a c :=
  ⟨k.os.trans h.os, k.tape.trans h.tape, k.output.trans h.output, Nat.le_trans h.size k.size, fun i hi hn => (World.grownBy.block k i (Nat.lt_of_lt_of_le hi h.size) hn).trans (World.grownBy.block h i hi hn)⟩
theorem Wr.fr (h : Wr p a b) (k : Fr b c) : Wr p a c := h.call (Wr.of k)
theorem Wr.alloc (h : Wr p a b) (o : Obj) : Wr p a (b.alloc o) := h.fr ((Fr.refl b).alloc o)
theorem Wr.drew (h : Wr p a b) : Wr p a b.drew := h.fr (Fr.drew (Fr.refl b))
theorem Wr.drewN (h : Wr p a b) (n : Nat) : Wr p a (b.drewN n) := h.fr (Fr.drewN (Fr.refl b) n)
theorem Wr.setp (h : Wr p a b) (o : Nat) (v : Value) : Wr p a (b.setCell ⟨p, o, none⟩ v) :=
  h.call ⟨rfl, rfl, rfl, by simp, fun k _ hn => Below.heap_setCell b ⟨p, o, none⟩ v k (fun e => hn (congrArg some e))⟩
theorem Wr.setn (h : Wr p a b) {q : Addr} (hq : a.heap.size ≤ q.block) (v : Value) : Wr p a (b.setCell q v) :=
  ⟨h.os, h.tape, h.output, by have := h.size; simp; exact this, fun k hk hn => (Below.heap_setCell b q v k (by omega)).trans (World.grownBy.block h k hk hn)⟩
theorem Wr.blk (h : Wr p a b) {k : Nat} (hk : k < a.heap.size) (hn : k ≠ p) : b.heap[k]? = a.heap[k]? := World.grownBy.block h k hk (fun e => hn (by injection e))
theorem Bk.wr {g : Nat} {t : TypeId} {cs : Array Value} (h : Bk a g t cs) (k : Wr p a b) (hn : g ≠ p) : Bk b g t cs := by
  have hl := h.lt
  unfold Bk at h ⊢
  rw [k.blk hl hn]; exact h
end
section
variable {w w' : World} {p : Nat} {s : ByteArray} {i k : Nat}
end
theorem cell_wr {w w' : World} {p b o : Nat} {v : Value} (k : Wr p w w') (hb : b ≠ p) (h : w.cell? ⟨b, o, none⟩ = some v) : w'.cell? ⟨b, o, none⟩ = some v :=
  (cell_of_heap (k.blk (lt_of_cell h) hb)).trans h
theorem var_keep {P : Program} {w w' : World} {n : String} {g : Nat} (hg : P.globalNamed n = some g) (h : w'.heap[g]? = w.heap[g]?) : w'.var? P n = w.var? P n := by
  unfold World.var?; rw [hg]; simp only [Option.bind_some]; rw [h]
end Go.Proofs.YtdipnhghdajplaaGreatDoor
namespace Go.Proofs.YtdipnhghdajplaaGreatDoor
open Go.RowKit
set_option linter.unusedSimpArgs false
set_option linter.unusedVariables false

theorem tail_of (s : ByteArray) (j : Nat) : (s.extract j s.size).data.toList = s.data.toList.drop j := by
  simp [List.take_of_length_le]
end Go.Proofs.YtdipnhghdajplaaGreatDoor
namespace Go.Proofs.YtdipnhghdajplaaGreatDoor
open Go.RowKit
set_option linter.unusedSimpArgs false
set_option linter.unusedVariables false

theorem slice_at (s : ByteArray) (a b : Nat) (h1 : a ≤ b) (h2 : b ≤ s.size) (w : World) : (Instr.slice 9 (.string s) (some (.int .i64 (a : Int))) (some (.int .i64 (b : Int))) none).run Tryz.prog w = .ok (.string (s.extract a b)) w := by
  have h := run_slice_string (P := Tryz.prog) w 9 s .i64 .i64 (a : Int) (b : Int) Tryz.underlying9 (by omega) (by omega) (by omega)
  simpa using h
/-- A tree without lists, as a value. -/
abbrev tv (k : Int) (s : ByteArray) (n : Int) : Value := .agg #[.int .i64 k, .string s, .int .i64 n, .slice none 0 0]
def QuRel (s : ByteArray) (j : Nat) (i : Value) : Prop := ∃ m : Nat, j + 1 + m ≤ s.size ∧ i = .int .i64 ((j + 1 + m : Nat) : Int) ∧ textL (s.data.toList.drop (j + 1)) 0 = textL (s.data.toList.drop (j + 1 + m)) m
theorem Bk.four {w : World} {g : Nat} {t : TypeId} {a b c d : Value} (h : Bk w g t #[a, b, c, d]) : w.cell? ⟨g, 0, none⟩ = some a ∧ w.cell? ⟨g, 1, none⟩ = some b ∧ w.cell? ⟨g, 2, none⟩ = some c ∧ w.cell? ⟨g, 3, none⟩ = some d ∧
    w.frozen? ⟨g, 0, none⟩ = false ∧ w.frozen? ⟨g, 1, none⟩ = false ∧ w.frozen? ⟨g, 2, none⟩ = false ∧ w.frozen? ⟨g, 3, none⟩ = false := ⟨h.cell 0, h.cell 1, h.cell 2, h.cell 3, h.free 0, h.free 1, h.free 2, h.free 3⟩
theorem textL_nil (m : Nat) : textL [] m = .unclosed := rfl
theorem textL_cons (c : UInt8) (r : List UInt8) (m : Nat) : textL (c :: r) m = if c.toNat = 10 then .unclosed else if c.toNat = 34 then .closed m else if txB c then textL r (m + 1) else .wrong m := rfl
end Go.Proofs.YtdipnhghdajplaaGreatDoor
namespace Go.Proofs.YtdipnhghdajplaaGreatDoor
open Go.RowKit
set_option linter.unusedSimpArgs false
set_option linter.unusedVariables false

theorem snoc_ind {α : Type} {P : List α → Prop} (h0 : P []) (h1 : ∀ l a, P l → P (l ++ [a])) (l : List α) : P l := by
  have h : ∀ r : List α, P r.reverse := by
    intro r
    induction r with
    | nil => exact h0
    | cons a r ih => rw [List.reverse_cons]; exact h1 _ _ ih
  have := h l.reverse
  rwa [List.reverse_reverse] at this
theorem digL_nil (a : Int) : digL a [] = some a := rfl
theorem digL_cons (a : Int) (c : UInt8) (r : List UInt8) : digL a (c :: r) = if 48 ≤ c.toNat ∧ c.toNat ≤ 57 then digL (a * 10 + ((c.toNat : Int) - 48)) r else none := rfl
theorem digL_snoc (l : List UInt8) (c : UInt8) : ∀ a : Int, digL a (l ++ [c]) = (digL a l).bind fun v => if 48 ≤ c.toNat ∧ c.toNat ≤ 57 then some (v * 10 + ((c.toNat : Int) - 48)) else none := by
  induction l with
  | nil => intro a; rw [List.nil_append, digL_cons, digL_nil, digL_nil]; rfl
  | cons d r ih =>
    intro a
    rw [List.cons_append, digL_cons, digL_cons]
    by_cases h : 48 ≤ d.toNat ∧ d.toNat ≤ 57
    · rw [if_pos h, if_pos h, ih]
    · rw [if_neg h, if_neg h]; rfl
theorem dig_nat (d : Nat) (h : d < 10) : (UInt8.ofNat (48 + d)).toNat = 48 + d := by
  rw [UInt8.toNat_ofNat']; omega
theorem digL_dec (u : Nat) : digL 0 (Lib.decDigits u) = some (u : Int) := by
  induction u using Nat.strongRecOn with
  | ind u ih =>
    rw [Lib.decDigits]
    by_cases h : u < 10
    · rw [dif_pos h, digL_cons, dig_nat u h, if_pos (by omega), digL_nil]; congr 1; omega
    · rw [dif_neg h, digL_snoc, ih (u / 10) (by omega)]
      simp only [Option.bind_some]
      rw [dig_nat (u % 10) (by omega), if_pos (by omega)]
      congr 1; omega
theorem dec_ne (u : Nat) : Lib.decDigits u ≠ [] := by
  rw [Lib.decDigits]; split <;> simp
/-- The first digit is no nought but in 0 itself. -/
theorem dec_head (u : Nat) (hu : 0 < u) : ∃ c r, Lib.decDigits u = c :: r ∧ c.toNat ≠ 48 := by
  induction u using Nat.strongRecOn with
  | ind u ih =>
    rw [Lib.decDigits]
    by_cases h : u < 10
    · rw [dif_pos h]; exact ⟨_, [], rfl, by rw [dig_nat u h]; omega⟩
    · rw [dif_neg h]
      obtain ⟨c, r, e, hc⟩ := ih (u / 10) (by omega) (by omega)
      exact ⟨c, r ++ [_], by rw [e]; rfl, hc⟩
theorem digL_some {l : List UInt8} {v : Int} (h : digL 0 l = some v) : 0 ≤ v := by
  induction l using snoc_ind generalizing v with
  | h0 => injection h with h; omega
  | h1 l c ih =>
    rw [digL_snoc] at h
    cases hl : digL 0 l with
    | none => rw [hl] at h; cases h
    | some a =>
      have := ih hl
      rw [hl] at h
      simp only [Option.bind_some] at h
      split at h
      · injection h with h; omega
      · cases h
theorem u8_eq {c : UInt8} {d : Nat} (h : c.toNat = 48 + d) (hd : d < 10) : c = UInt8.ofNat (48 + d) := by
  apply UInt8.toNat_inj.1; rw [dig_nat d hd]; exact h
/-- Digits without a nought ahead are those of their number. -/
theorem dec_of_digL {l : List UInt8} {v : Int} (h : digL 0 l = some v) (hne : l ≠ []) (hz : ∀ c r, l = c :: r → c.toNat = 48 → r = []) : Lib.decDigits v.toNat = l := by
  induction l using snoc_ind generalizing v with
  | h0 => exact absurd rfl hne
  | h1 l c ih =>
    rw [digL_snoc] at h
    cases hl : digL 0 l with
    | none => rw [hl] at h; cases h
    | some a =>
      have ha := digL_some hl
      rw [hl] at h
      simp only [Option.bind_some] at h
      split at h
      · next hc =>
        injection h with h
        have hcd : c = UInt8.ofNat (48 + (c.toNat - 48)) := u8_eq (by omega) (by omega)
        rcases l with _ | ⟨d, r⟩
        · rw [digL_nil] at hl
          injection hl with hl
          subst hl
          have e : v.toNat = c.toNat - 48 := by omega
          rw [e, Lib.decDigits, dif_pos (by omega), ← hcd]; rfl
        · have hd : d.toNat ≠ 48 := fun k => by
            have := hz d (r ++ [c]) rfl k
            simp at this
          have i := ih hl (by simp) (fun c' r' e k => by injection e with e1 e2; subst e1; exact absurd k hd)
          have hpos : 0 < a.toNat := by
            rcases Nat.eq_zero_or_pos a.toNat with k | k
            · rw [k, Lib.decDigits, dif_pos (by omega)] at i
              injection i with i1 i2
              exact absurd (by rw [← i1]; exact dig_nat 0 (by omega)) hd
            · exact k
          have e1 : v.toNat / 10 = a.toNat := by omega
          have e2 : v.toNat % 10 = c.toNat - 48 := by omega
          rw [Lib.decDigits, dif_neg (by omega), e1, e2, i, ← hcd]
      · cases h
theorem dec_len {u : Nat} (h : u < 1000000000000000000) : (Lib.decDigits u).length ≤ 18 := by
  rw [Lib.decDigits_length]
  rcases Nat.lt_or_ge 18 (Lib.nDigits u) with k | k
  · exfalso
    have : ∀ (m u : Nat), u < 10 ^ m → 1 ≤ m → Lib.nDigits u ≤ m := by
      intro m
      induction m with
      | zero => intro u _ h; omega
      | succ m ih =>
        intro u hu _
        by_cases hs : u < 10
        · rw [Lib.nDigits_small hs]; omega
        · rw [Lib.nDigits_big hs]
          have h1 : u / 10 < 10 ^ m := by rw [Nat.pow_succ] at hu; omega
          rcases Nat.eq_zero_or_pos m with h0 | h0
          · subst h0; simp at h1; omega
          · have := ih (u / 10) h1 h0; omega
    have := this 18 u (by simpa using h) (by omega)
    omega
  · exact k
def okN (n : Int) : Prop := -1000000000000000000 < n ∧ n < 1000000000000000000
theorem digL_lt {l : List UInt8} {v : Int} (h : digL 0 l = some v) : v < 10 ^ l.length := by
  induction l using snoc_ind generalizing v with
  | h0 => injection h with h; subst h; simp
  | h1 l c ih =>
    rw [digL_snoc] at h
    cases hl : digL 0 l with
    | none => rw [hl] at h; cases h
    | some a =>
      have := ih hl
      rw [hl] at h
      simp only [Option.bind_some] at h
      split at h
      · injection h with h
        rw [List.length_append, List.length_singleton, Int.pow_succ]
        omega
      · cases h
theorem magL_some {b : Bool} {d : List UInt8} {n : Int} (h : magL b d = some n) : ∃ v : Int, 0 ≤ v ∧ v < 1000000000000000000 ∧ d = Lib.decDigits v.toNat ∧ n = (if b then -v else v) ∧ (b = true → 0 < v) := by
  unfold magL at h
  rcases d with _ | ⟨c, r⟩
  · cases h
  · simp only at h
    split at h
    · cases h
    · next hc =>
      obtain ⟨v, hv, rfl⟩ := Option.map_eq_some_iff.1 h
      have h18 : (c :: r).length ≤ 18 := by omega
      have hz : ∀ c' r', c :: r = c' :: r' → c'.toNat = 48 → r' = [] := by
        intro c' r' e k
        injection e with e1 e2
        subst e1 e2
        rcases Decidable.em (r = []) with h0 | h0
        · exact h0
        · exact absurd (Or.inr ⟨k, Or.inr h0⟩) hc
      have hd := dec_of_digL hv (by simp) hz
      have hlt := digL_lt hv
      have hp : (10 : Int) ^ (c :: r).length ≤ 10 ^ 18 := by
        have := Nat.pow_le_pow_right (n := 10) (by omega) h18
        exact_mod_cast this
      have h0 := digL_some hv
      refine ⟨v, h0, ?_, hd.symm, rfl, fun hb => ?_⟩
      · have e : (10 : Int) ^ 18 = 1000000000000000000 := by decide
        omega
      · rcases Int.lt_or_le 0 v with k | k
        · exact k
        · exfalso
          have : v = 0 := by omega
          subst this
          rw [show (0 : Int).toNat = 0 from rfl, Lib.decDigits, dif_pos (by omega)] at hd
          injection hd with d1 d2
          exact hc (Or.inr ⟨by rw [← d1]; exact dig_nat 0 (by omega), Or.inl hb⟩)
theorem magL_dec {b : Bool} {u : Nat} (hu : u < 1000000000000000000) (hb : b = true → 0 < u) : magL b (Lib.decDigits u) = some (if b then -(u : Int) else (u : Int)) := by
  have hl := dec_len hu
  have hd := digL_dec u
  cases hc : Lib.decDigits u with
  | nil => exact absurd hc (dec_ne u)
  | cons c r =>
    rw [hc] at hl hd
    unfold magL
    simp only
    rw [if_neg, hd]
    · rfl
    · rintro (k | ⟨k, k2⟩)
      · omega
      · rcases Nat.eq_zero_or_pos u with h0 | h0
        · subst h0
          rw [Lib.decDigits, dif_pos (by omega)] at hc
          injection hc with c1 c2
          rcases k2 with k2 | k2
          · have := hb k2; omega
          · exact k2 c2.symm
        · obtain ⟨c', r', e, hne⟩ := dec_head u h0
          rw [hc] at e
          injection e with e1 e2
          subst e1
          exact hne k
theorem first_digit (u : Nat) : ∃ c r, Lib.decDigits u = c :: r ∧ 48 ≤ c.toNat ∧ c.toNat ≤ 57 := by
  have hd := digL_dec u
  cases hc : Lib.decDigits u with
  | nil => exact absurd hc (dec_ne u)
  | cons c r =>
    rw [hc, digL_cons] at hd
    refine ⟨c, r, rfl, ?_⟩
    split at hd
    · assumption
    · cases hd
theorem numL_itoa {n : Int} (h : okN n) : numL (Lib.itoa n) = some n := by
  obtain ⟨h1, h2⟩ := h
  unfold Lib.itoa
  by_cases hn : n < 0
  · rw [if_pos hn]
    unfold numL
    simp only
    rw [if_pos (by decide), magL_dec (by omega) (fun _ => by omega), if_pos rfl]
    congr 1; omega
  · rw [if_neg hn]
    obtain ⟨c, r, e, d1, d2⟩ := first_digit n.toNat
    have hm := magL_dec (b := false) (u := n.toNat) (by omega) (fun h => by cases h)
    rw [e] at hm ⊢
    unfold numL
    simp only
    rw [if_neg (by omega), hm, if_neg (by simp)]
    congr 1; omega
theorem numL_some {w : List UInt8} {n : Int} (h : numL w = some n) : w = Lib.itoa n ∧ okN n := by
  rcases w with _ | ⟨c, r⟩
  · cases h
  · unfold numL at h
    simp only at h
    unfold Lib.itoa okN
    split at h
    · next hc =>
      obtain ⟨v, v0, v1, e, hn, hb⟩ := magL_some h
      have := hb rfl
      rw [if_pos rfl] at hn
      have hc' : c = 45 := UInt8.toNat_inj.1 hc
      refine ⟨?_, by omega, by omega⟩
      rw [if_pos (by omega), hc', e]
      congr 2; omega
    · obtain ⟨v, v0, v1, e, hn, hb⟩ := magL_some h
      rw [if_neg (by simp)] at hn
      subst hn
      exact ⟨by rw [if_neg (by omega), e], by omega, by omega⟩
end Go.Proofs.YtdipnhghdajplaaGreatDoor
namespace Go.Proofs.YtdipnhghdajplaaGreatDoor
open Go.RowKit
set_option linter.unusedSimpArgs false
set_option linter.unusedVariables false

theorem digL_from (l : List UInt8) : ∀ a : Nat, digL (a : Int) l = (Lib.decFrom a l).map fun (m : Nat) => (m : Int) := by
  induction l with
  | nil => intro a; rfl
  | cons c r ih =>
    intro a
    rw [digL_cons]
    unfold Lib.decFrom Lib.digitVal
    by_cases h : 48 ≤ c.toNat ∧ c.toNat ≤ 57
    · rw [if_pos h, if_pos h]
      simp only
      rw [← ih (a * 10 + (c.toNat - 48))]
      congr 1; omega
    · rw [if_neg h, if_neg h]; rfl
theorem decNat_dec (u : Nat) : Lib.decNat (Lib.decDigits u) = some u := by
  unfold Lib.decNat
  have hne := dec_ne u
  have h := digL_from (Lib.decDigits u) 0
  rw [show ((0 : Nat) : Int) = 0 from rfl, digL_dec u] at h
  rw [if_neg (by simpa using hne)]
  cases e : Lib.decFrom 0 (Lib.decDigits u) with
  | none => rw [e] at h; cases h
  | some m => rw [e] at h; simp at h; congr 1; omega
theorem atoi_itoa {n : Int} (h : okN n) : Lib.atoiAll (Lib.itoa n) = .ok n := by
  obtain ⟨h1, h2⟩ := h
  unfold Lib.itoa
  by_cases hn : n < 0
  · rw [if_pos hn, Lib.atoiAll_minus, Lib.signed_short (dec_len (by omega)), decNat_dec]
    simp [Lib.NumEnd.ofOption]; omega
  · rw [if_neg hn]
    obtain ⟨c, r, e, d1, d2⟩ := first_digit n.toNat
    have hl : (Lib.decDigits n.toNat).length ≤ 18 := dec_len (by omega)
    have hd := decNat_dec n.toNat
    rw [e] at hl hd ⊢
    rw [Lib.atoiAll_plain c r (by omega) (by omega), Lib.signless_short hl, hd]
    simp [Lib.NumEnd.ofOption]; omega
/-- Which runs are numbers: what Atoi reads, within the bounds, and is written so. -/
theorem numL_none_of {w : List UInt8} (h : ∀ v, Lib.atoiAll w = .ok v → okN v → Lib.itoa v ≠ w) : numL w = none := by
  cases e : numL w with
  | none => rfl
  | some n =>
    obtain ⟨h1, h2⟩ := numL_some e
    exact absurd h1.symm (h n (by rw [h1]; exact atoi_itoa h2) h2)
theorem ruN_split {c : UInt8} {r : List UInt8} (h : inB c = true) : ruN (c :: r) = ruN r + 1 := by rw [show ruN (c :: r) = if inB c then ruN r + 1 else 0 from rfl, if_pos h]
theorem ruN_none {c : UInt8} {r : List UInt8} (h : inB c = false) : ruN (c :: r) = 0 := by rw [show ruN (c :: r) = if inB c then ruN r + 1 else 0 from rfl, h]; rfl
theorem empty_no {s : ByteArray} (h : 0 < s.size) : s.toList.isEmpty = false := by
  rw [← decide_eq_emptyBytes]; exact decide_eq_false fun k => by subst k; simp at h
theorem empty_yes {s : ByteArray} (h : s.size = 0) : s.toList.isEmpty = true := by
  rw [← decide_eq_emptyBytes]; exact decide_eq_true (by apply ByteArray.ext; apply Array.eq_empty_of_size_eq_zero; exact h)
theorem sub_list (s : ByteArray) (j n : Nat) : (s.extract j (j + n)).data.toList = (s.data.toList.drop j).take n := by simp
theorem sub_head (s : ByteArray) (j n : Nat) (hn : 0 < n) (hj : j + n ≤ s.size) : 0 < (s.extract j (j + n)).size ∧ ∀ h : 0 < (s.extract j (j + n)).size, (s.extract j (j + n))[0] = s[j] := by
  refine ⟨by simp; omega, fun h => ?_⟩
  simp [ByteArray.getElem_extract]
end Go.Proofs.YtdipnhghdajplaaGreatDoor
namespace Go.Proofs.YtdipnhghdajplaaGreatDoor
open Go.RowKit
set_option linter.unusedSimpArgs false
set_option linter.unusedVariables false

end Go.Proofs.YtdipnhghdajplaaGreatDoor
namespace Go.Proofs.YtdipnhghdajplaaGreatDoor
open Go.RowKit
set_option linter.unusedSimpArgs false
set_option linter.unusedVariables false

theorem fr_grow (w : World) (k : Nat) (os : Array Obj) : Fr w (Sort.grow (w.drewN k) os) := by
  refine ⟨rfl, rfl, rfl, ?_, fun i hi => ?_⟩
  · show w.heap.size ≤ (w.heap ++ os).size
    simp
  · show (w.heap ++ os)[i]? = w.heap[i]?
    rw [Array.getElem?_append_left hi]
end Go.Proofs.YtdipnhghdajplaaGreatDoor
namespace Go.Proofs.YtdipnhghdajplaaGreatDoor
open Go.RowKit
set_option linter.unusedSimpArgs false
set_option linter.unusedVariables false

end Go.Proofs.YtdipnhghdajplaaGreatDoor
namespace Go.Proofs.YtdipnhghdajplaaGreatDoor
open Go.RowKit
set_option linter.unusedSimpArgs false
set_option linter.unusedVariables false

end Go.Proofs.YtdipnhghdajplaaGreatDoor
namespace Go.Proofs.YtdipnhghdajplaaGreatDoor
open Go.RowKit
set_option linter.unusedSimpArgs false
set_option linter.unusedVariables false

end Go.Proofs.YtdipnhghdajplaaGreatDoor
namespace Go.Proofs.YtdipnhghdajplaaGreatDoor
open Go.RowKit
set_option linter.unusedSimpArgs false
set_option linter.unusedVariables false

end Go.Proofs.YtdipnhghdajplaaGreatDoor
namespace Go.Proofs.YtdipnhghdajplaaGreatDoor
open Go.RowKit
set_option linter.unusedSimpArgs false
set_option linter.unusedVariables false

/-- Blocks that a call made. -/
def New (w w' : World) (b : Nat) : Prop := w.heap.size ≤ b ∧ b < w'.heap.size
end Go.Proofs.YtdipnhghdajplaaGreatDoor
namespace Go.Proofs.YtdipnhghdajplaaGreatDoor
open Go.RowKit
set_option linter.unusedSimpArgs false
set_option linter.unusedVariables false

abbrev tz : Obj := .cells #[.int .i64 0, .string ⟨#[]⟩, .int .i64 0, .slice none 0 0] 144
theorem heap_set4 (w : World) (g b : Nat) (hb : b ≠ g) (x0 x1 x2 x3 : Value) : ((((w.setCell ⟨g, 0, none⟩ x0).setCell ⟨g, 1, none⟩ x1).setCell ⟨g, 2, none⟩ x2).setCell ⟨g, 3, none⟩ x3).heap[b]? = w.heap[b]? := by
  rw [Below.heap_setCell _ _ _ _ hb, Below.heap_setCell _ _ _ _ hb, Below.heap_setCell _ _ _ _ hb, Below.heap_setCell _ _ _ _ hb]
theorem size_set4 (w : World) (g : Nat) (x0 x1 x2 x3 : Value) : ((((w.setCell ⟨g, 0, none⟩ x0).setCell ⟨g, 1, none⟩ x1).setCell ⟨g, 2, none⟩ x2).setCell ⟨g, 3, none⟩ x3).heap.size = w.heap.size := by simp
end Go.Proofs.YtdipnhghdajplaaGreatDoor
