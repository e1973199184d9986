/- Trees, and texts read as trees by a machine with a stack: plain; nothing of the program. -/
import Derived.WalkKit
import Derived.Lib.Hide
namespace Go.Proofs.YtcndmiolaheaeaaGreatDoor
open Go.RowKit
set_option linter.unusedSimpArgs false
set_option linter.unusedVariables false

/-- A tree: its kind, its word, its number, what it holds. -/
inductive T where
  | node (k : Int) (s : ByteArray) (n : Int) (ks : List T)
/-- The bytes of a run; of a text; what a number begins with. -/
def inB (c : UInt8) : Bool := decide (32 < c.toNat ∧ c.toNat < 127 ∧ c.toNat ≠ 40 ∧ c.toNat ≠ 41 ∧ c.toNat ≠ 34 ∧ c.toNat ≠ 59)
def txB (c : UInt8) : Bool := decide (32 ≤ c.toNat ∧ c.toNat ≤ 126 ∧ c.toNat ≠ 34)
def nuB (c : UInt8) : Bool := decide (c.toNat = 45 ∨ (48 ≤ c.toNat ∧ c.toNat ≤ 57))
/-- A text behind its quote: closed behind so many bytes; a byte that is none; not closed. -/
inductive Q where
  | closed (m : Nat)
  | wrong (m : Nat)
  | unclosed
def textL : List UInt8 → Nat → Q
  | [], _ => .unclosed
  | c :: r, m => if c.toNat = 10 then .unclosed else if c.toNat = 34 then .closed m else if txB c then textL r (m + 1) else .wrong m
/-- How many bytes are blanks and remarks; the flag: within a remark. -/
def skN : Bool → List UInt8 → Nat
  | _, [] => 0
  | true, c :: r => if c.toNat = 10 then skN false r + 1 else skN true r + 1
  | false, c :: r => if c.toNat = 32 ∨ c.toNat = 10 then skN false r + 1 else if c.toNat = 59 then skN true r + 1 else 0
/-- How long a run is. -/
def ruN : List UInt8 → Nat
  | [] => 0
  | c :: r => if inB c then ruN r + 1 else 0
/-- The number that digits write, the ones ahead told. -/
def digL : Int → List UInt8 → Option Int
  | a, [] => some a
  | a, c :: r => if 48 ≤ c.toNat ∧ c.toNat ≤ 57 then digL (a * 10 + ((c.toNat : Int) - 48)) r else none
/-- The number that a run writes. -/
def magL (neg : Bool) (d : List UInt8) : Option Int :=
  match d with
  | [] => none
  | c :: r => if 18 < d.length ∨ (c.toNat = 48 ∧ (neg = true ∨ r ≠ [])) then none else (digL 0 d).map (fun n => if neg then -n else n)
def numL : List UInt8 → Option Int
  | [] => none
  | c :: r => if c.toNat = 45 then magL true r else magL false (c :: r)
/-- A token that is a tree by itself: the place (from its own) where it is wrong; else the tree and its length. -/
def leaf (c : UInt8) (r : List UInt8) : Nat ⊕ (T × Nat) :=
  if c.toNat = 34 then
    match textL r 0 with
    | .closed m => .inr (.node 3 ⟨(r.take m).toArray⟩ 0 [], m + 2)
    | .wrong m => .inl (m + 1)
    | .unclosed => .inl 0
  else if inB c then
    if nuB c then
      match numL ((c :: r).take (ruN (c :: r))) with
      | some n => .inr (.node 2 ⟨#[]⟩ n [], ruN (c :: r))
      | none => .inl 0
    else .inr (.node 1 ⟨((c :: r).take (ruN (c :: r))).toArray⟩ 0 [], ruN (c :: r))
  else .inl 0
inductive Res where
  | ok (l : List T)
  | err (at_ : Nat) (e : Int)
/-- The machine: the text, the place, the lists that are open (the innermost first), how many trees have begun. -/
def go : Nat → List UInt8 → Nat → List (List T) → Nat → Res
  | 0, _, i, _, _ => .err i 0
  | f + 1, L, i, st, k =>
    match L.drop (i + skN false (L.drop i)) with
    | [] => match st with
      | [top] => .ok top
      | _ => .err (i + skN false (L.drop i)) 31
    | c :: r =>
      if c.toNat = 41 then
        match st with
        | cur :: par :: rest => go f L (i + skN false (L.drop i) + 1) ((par ++ [.node 4 ⟨#[]⟩ 0 cur]) :: rest) k
        | _ => .err (i + skN false (L.drop i)) 31
      else if c.toNat = 40 then
        if 65536 < k + 1 ∨ 32 < st.length then .err (i + skN false (L.drop i)) 33
        else go f L (i + skN false (L.drop i) + 1) ([] :: st) (k + 1)
      else match leaf c r with
        | .inl d => .err (i + skN false (L.drop i) + d) 31
        | .inr (t, n) => if 65536 < k + 1 then .err (i + skN false (L.drop i)) 33
          else match st with
            | cur :: rest => go f L (i + skN false (L.drop i) + n) ((cur ++ [t]) :: rest) (k + 1)
            | [] => .err (i + skN false (L.drop i)) 0
/-- With as many rounds as there are bytes. -/
def run (L : List UInt8) (i : Nat) (st : List (List T)) (k : Nat) : Res := go (L.length + 1 - i) L i st k

theorem textL_le {r : List UInt8} {a m : Nat} (h : textL r a = .closed m) : a ≤ m ∧ m - a < r.length := by
  induction r generalizing a with
  | nil => cases h
  | cons c r ih =>
    unfold textL at h
    split at h
    · cases h
    · split at h
      · injection h with h; subst h; simp
      · split at h
        · have := ih h; simp; omega
        · cases h
theorem ruN_le (l : List UInt8) : ruN l ≤ l.length := by
  induction l with
  | nil => simp [ruN]
  | cons c r ih => unfold ruN; split <;> simp <;> omega
theorem ruN_pos {c : UInt8} {r : List UInt8} (h : inB c = true) : 0 < ruN (c :: r) := by unfold ruN; rw [if_pos h]; omega
theorem skN_le (b : Bool) (l : List UInt8) : skN b l ≤ l.length := by
  induction l generalizing b with
  | nil => cases b <;> simp [skN]
  | cons c r ih =>
    have h1 := ih true
    have h2 := ih false
    cases b
    · unfold skN; split
      · simp; omega
      · split <;> simp; omega
    · unfold skN; split <;> simp <;> omega
theorem leaf_len {c : UInt8} {r : List UInt8} {t : T} {n : Nat} (h : leaf c r = .inr (t, n)) : 0 < n ∧ n ≤ r.length + 1 := by
  unfold leaf at h
  split at h
  · split at h
    · next m e => injection h with h; injection h with _ h; subst h; have := textL_le e; omega
    · cases h
    · cases h
  · split at h
    · next hb =>
      have h1 := ruN_pos (r := r) hb
      have h2 := ruN_le (c :: r)
      simp at h2
      split at h
      · split at h
        · injection h with h; injection h with _ h; omega
        · cases h
      · injection h with h; injection h with _ h; omega
    · cases h
theorem go_fuel (f : Nat) : ∀ (f' : Nat) (L : List UInt8) (i : Nat) (st : List (List T)) (k : Nat), L.length < i + f → L.length < i + f' → i ≤ L.length → go f L i st k = go f' L i st k := by
  induction f with
  | zero => intro f' L i st k h _ h2; omega
  | succ f ih =>
    intro f' L i st k h h' h2
    obtain ⟨g, rfl⟩ : ∃ g, f' = g + 1 := ⟨f' - 1, by omega⟩
    have hs := skN_le false (L.drop i)
    simp at hs
    unfold go
    generalize hj : i + skN false (L.drop i) = j at *
    cases hd : L.drop j with
    | nil => rfl
    | cons c r =>
      have hl : r.length + 1 = L.length - j := by have := congrArg List.length hd; simp at this; omega
      have hjl : j < L.length := by omega
      simp only
      split
      · split
        · exact ih g L (j + 1) _ _ (by omega) (by omega) (by omega)
        · rfl
      · split
        · split
          · rfl
          · exact ih g L (j + 1) _ _ (by omega) (by omega) (by omega)
        · split
          · rfl
          · next t n e =>
            have hn := leaf_len e
            split
            · rfl
            · split
              · exact ih g L (j + n) _ _ (by omega) (by omega) (by omega)
              · rfl
end Go.Proofs.YtcndmiolaheaeaaGreatDoor
