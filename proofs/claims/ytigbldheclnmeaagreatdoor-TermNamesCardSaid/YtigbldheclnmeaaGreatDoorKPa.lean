/- The document's tokens, and its reading of them with a stack, against the machine; nothing of the program. -/
import Derived.Test.YtigbldheclnmeaaGreatDoorKSq
namespace Go.Proofs.YtigbldheclnmeaaGreatDoor
open Go.RowKit
set_option linter.unusedSimpArgs false
set_option linter.unusedVariables false

/-- A token: where it begins, its kind, its number, where it is wrong, its word. -/
structure Tk where
  pos : Nat
  kind : Int
  num : Int
  wrong : Nat
  word : ByteArray
def tokT (j : Nat) : T → Tk
  | .node k s n _ => ⟨j, k, n, 0, s⟩
/-- The tokens from a place on, up to a wrong one. -/
def toks : Nat → List UInt8 → Nat → List Tk
  | 0, _, _ => []
  | f + 1, L, i =>
    match L.drop (i + skN false (L.drop i)) with
    | [] => []
    | c :: r =>
      if c.toNat = 41 then ⟨i + skN false (L.drop i), 5, 0, 0, ⟨#[]⟩⟩ :: toks f L (i + skN false (L.drop i) + 1)
      else if c.toNat = 40 then ⟨i + skN false (L.drop i), 4, 0, 0, ⟨#[]⟩⟩ :: toks f L (i + skN false (L.drop i) + 1)
      else match leaf c r with
        | .inl d => [⟨i + skN false (L.drop i), 6, 0, i + skN false (L.drop i) + d, ⟨#[]⟩⟩]
        | .inr (t, n) => tokT (i + skN false (L.drop i)) t :: toks f L (i + skN false (L.drop i) + n)
def tokens (L : List UInt8) (i : Nat) : List Tk := toks (L.length + 1 - i) L i
/-- The document's reading: the tokens, the lists that are open (the innermost first), how many trees. -/
def pgo (z : Nat) : List Tk → List (List T) → Nat → Res
  | [], st, _ => match st with
    | [top] => .ok top
    | _ => .err z 31
  | t :: r, st, k =>
    if t.kind = 6 then .err t.wrong 31
    else if t.kind = 5 then
      match st with
      | cur :: par :: rest => pgo z r ((par ++ [.node 4 ⟨#[]⟩ 0 cur]) :: rest) k
      | _ => .err t.pos 31
    else if 65536 < k + 1 ∨ (t.kind = 4 ∧ 32 < st.length) then .err t.pos 33
    else if t.kind = 4 then pgo z r ([] :: st) (k + 1)
    else match st with
      | cur :: rest => pgo z r ((cur ++ [.node t.kind t.word t.num []]) :: rest) (k + 1)
      | [] => .err t.pos 0

theorem leaf_kd {c : UInt8} {r : List UInt8} {k m : Int} {s : ByteArray} {ks : List T} {n : Nat} (h : leaf c r = .inr (.node k s m ks, n)) : (k = 1 ∨ k = 2 ∨ k = 3) ∧ ks = [] := by
  unfold leaf at h
  split at h
  · split at h
    · injection h with h; injection h with h _; injection h with h1 h2 h3 h4; exact ⟨.inr (.inr h1.symm), h4.symm⟩
    · cases h
    · cases h
  · split at h
    · split at h
      · split at h
        · injection h with h; injection h with h _; injection h with h1 h2 h3 h4; exact ⟨.inr (.inl h1.symm), h4.symm⟩
        · cases h
      · injection h with h; injection h with h _; injection h with h1 h2 h3 h4; exact ⟨.inl h1.symm, h4.symm⟩
    · cases h
theorem drop_nil_le {L : List UInt8} {j : Nat} (hj : j ≤ L.length) (h : L.drop j = []) : j = L.length := by
  have := congrArg List.length h
  simp at this; omega
theorem pgo_go (f : Nat) : ∀ (L : List UInt8) (i : Nat) (st : List (List T)) (k : Nat), L.length < i + f → i ≤ L.length → st ≠ [] → pgo L.length (toks f L i) st k = go f L i st k := by
  induction f with
  | zero => intro L i st k h h2; omega
  | succ f ih =>
    intro L i st k h h2 hst
    have hs := skN_le false (L.drop i)
    simp at hs
    unfold toks go
    generalize hj : i + skN false (L.drop i) = j at *
    cases hd : L.drop j with
    | nil =>
      obtain rfl := drop_nil_le (by omega) hd
      unfold pgo
      rcases st with _ | ⟨a, _ | ⟨b, rest⟩⟩
      · exact absurd rfl hst
      · rfl
      · rfl
    | cons c r =>
      have hjl : j < L.length := drop_len hd
      have hrl : r.length = L.length - (j + 1) := by
        have := congrArg List.length hd; simp at this; omega
      simp only
      by_cases h41 : c.toNat = 41
      · rw [if_pos h41, if_pos h41]
        unfold pgo
        rw [if_neg (by simp), if_pos rfl]
        rcases st with _ | ⟨a, _ | ⟨b, rest⟩⟩
        · rfl
        · rfl
        · exact ih L (j + 1) _ _ (by omega) (by omega) (by simp)
      · rw [if_neg h41, if_neg h41]
        by_cases h40 : c.toNat = 40
        · rw [if_pos h40, if_pos h40]
          unfold pgo
          rw [if_neg (by simp), if_neg (by simp)]
          simp only [true_and, if_true]
          by_cases hm : 65536 < k + 1 ∨ 32 < st.length
          · rw [if_pos hm, if_pos hm]
          · rw [if_neg hm, if_neg hm]
            exact ih L (j + 1) _ _ (by omega) (by omega) (by simp)
        · rw [if_neg h40, if_neg h40]
          rcases hl : leaf c r with d | ⟨⟨kd, sd, nd, ks⟩, n⟩
          · simp only
            unfold pgo
            rw [if_pos rfl]
          · obtain ⟨hk, rfl⟩ := leaf_kd hl
            have hn := leaf_len hl
            simp only
            unfold pgo tokT
            simp only
            rw [if_neg (by omega), if_neg (by omega)]
            have e4 : ¬ kd = 4 := by omega
            simp only [e4, false_and, or_false, if_false]
            by_cases hm : 65536 < k + 1
            · rw [if_pos hm, if_pos hm]
            · rw [if_neg hm, if_neg hm]
              rcases st with _ | ⟨a, rest⟩
              · exact absurd rfl hst
              · exact ih L (j + n) _ _ (by omega) (by omega) (by simp)
/-- The document reads as the machine does. -/
theorem pgo_run (L : List UInt8) (st : List (List T)) (k : Nat) (hst : st ≠ []) : pgo L.length (tokens L 0) st k = run L 0 st k := pgo_go _ L 0 st k (by omega) (by omega) hst

theorem toks_fuel (f : Nat) : ∀ (f' : Nat) (L : List UInt8) (i : Nat), L.length < i + f → L.length < i + f' → i ≤ L.length → toks f L i = toks f' L i := by
  induction f with
  | zero => intro f' L i h _ h2; omega
  | succ f ih =>
    intro f' L i h h' h2
    obtain ⟨g, rfl⟩ : ∃ g, f' = g + 1 := ⟨f' - 1, by omega⟩
    have hs := skN_le false (L.drop i)
    simp at hs
    unfold toks
    generalize hj : i + skN false (L.drop i) = j at *
    cases hd : L.drop j with
    | nil => rfl
    | cons c r =>
      have hjl : j < L.length := drop_len hd
      have hrl : r.length = L.length - (j + 1) := by
        have := congrArg List.length hd; simp at this; omega
      simp only
      rcases hl : leaf c r with d | ⟨⟨kd, sd, nd, ks⟩, n⟩
      · rw [ih g L (j + 1) (by omega) (by omega) (by omega)]
      · have hn := leaf_len hl
        rw [ih g L (j + 1) (by omega) (by omega) (by omega)]
        simp only
        rw [ih g L (j + n) (by omega) (by omega) (by omega)]
/-- Blanks and remarks make no difference. -/
theorem tokens_skip {L : List UInt8} {i j : Nat} (hi : i ≤ L.length) (hj : j ≤ L.length) (h : i + skN false (L.drop i) = j + skN false (L.drop j)) : tokens L i = tokens L j := by
  unfold tokens
  obtain ⟨a, ha⟩ : ∃ a, L.length + 1 - i = a + 1 := ⟨L.length - i, by omega⟩
  obtain ⟨b, hb⟩ : ∃ b, L.length + 1 - j = b + 1 := ⟨L.length - j, by omega⟩
  have hs := skN_le false (L.drop i)
  simp at hs
  rw [ha, hb]
  unfold toks
  rw [← h]
  generalize hjj : i + skN false (L.drop i) = m at *
  cases hd : L.drop m with
  | nil => rfl
  | cons c r =>
    have hjl : m < L.length := drop_len hd
    have hrl : r.length = L.length - (m + 1) := by
      have := congrArg List.length hd; simp at this; omega
    simp only
    rcases hl : leaf c r with d | ⟨⟨kd, sd, nd, ks⟩, n⟩
    · rw [toks_fuel a b L (m + 1) (by omega) (by omega) (by omega)]
    · have hn := leaf_len hl
      rw [toks_fuel a b L (m + 1) (by omega) (by omega) (by omega)]
      simp only
      rw [toks_fuel a b L (m + n) (by omega) (by omega) (by omega)]
section
variable {L : List UInt8} {j : Nat} {c : UInt8} {r : List UInt8}
theorem tokens_end : tokens L L.length = [] := by
  unfold tokens
  rw [show L.length + 1 - L.length = 0 + 1 by omega]
  unfold toks
  simp [skN]
theorem tokens_body (hd : L.drop j = c :: r) (h : Nb c) : tokens L j = (if c.toNat = 41 then ⟨j, 5, 0, 0, ⟨#[]⟩⟩ :: tokens L (j + 1)
      else if c.toNat = 40 then ⟨j, 4, 0, 0, ⟨#[]⟩⟩ :: tokens L (j + 1)
      else match leaf c r with
        | .inl d => [⟨j, 6, 0, j + d, ⟨#[]⟩⟩]
        | .inr (t, n) => tokT j t :: tokens L (j + n)) := by
  have hjl : j < L.length := drop_len hd
  have hrl : r.length = L.length - (j + 1) := by
    have := congrArg List.length hd; simp at this; omega
  have e : tokens L j = toks (L.length - j + 1) L j := by unfold tokens; rw [show L.length + 1 - j = L.length - j + 1 by omega]
  rw [e]
  unfold toks
  rw [hd, skN_nb h, Nat.add_zero, hd]
  simp only
  unfold tokens
  rcases hl : leaf c r with d | ⟨⟨kd, sd, nd, ks⟩, n⟩
  · rw [toks_fuel (L.length - j) (L.length + 1 - (j + 1)) L (j + 1) (by omega) (by omega) (by omega)]
  · have hn := leaf_len hl
    rw [toks_fuel (L.length - j) (L.length + 1 - (j + 1)) L (j + 1) (by omega) (by omega) (by omega)]
    simp only
    rw [toks_fuel (L.length - j) (L.length + 1 - (j + n)) L (j + n) (by omega) (by omega) (by omega)]
end
/-- There are no more of them than bytes. -/
theorem toks_len (f : Nat) : ∀ (L : List UInt8) (i : Nat), i ≤ L.length → (toks f L i).length + i ≤ L.length := by
  induction f with
  | zero => intro L i h; simp [toks]; exact h
  | succ f ih =>
    intro L i h
    have hs := skN_le false (L.drop i)
    simp at hs
    unfold toks
    generalize hj : i + skN false (L.drop i) = j at *
    cases hd : L.drop j with
    | nil => simp; exact h
    | cons c r =>
      have hjl : j < L.length := drop_len hd
      have hrl : r.length = L.length - (j + 1) := by
        have := congrArg List.length hd; simp at this; omega
      have h1 := ih L (j + 1) (by omega)
      simp only
      split
      · simp; omega
      · split
        · simp; omega
        · split
          · simp; omega
          · next t n hl =>
            have hn := leaf_len hl
            have h2 := ih L (j + n) (by omega)
            simp; omega
end Go.Proofs.YtigbldheclnmeaaGreatDoor
