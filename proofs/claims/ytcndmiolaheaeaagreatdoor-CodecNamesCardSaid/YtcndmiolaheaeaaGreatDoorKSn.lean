/- The machine's steps; nothing of the program. -/
import Derived.Test.YtcndmiolaheaeaaGreatDoorKSm
namespace Go.Proofs.YtcndmiolaheaeaaGreatDoor
open Go.RowKit
set_option linter.unusedSimpArgs false
set_option linter.unusedVariables false

theorem skN_idem (b : Bool) (l : List UInt8) : skN false (l.drop (skN b l)) = 0 := by
  induction l generalizing b with
  | nil => cases b <;> simp [skN]
  | cons c r ih =>
    cases b
    · by_cases h1 : c.toNat = 32 ∨ c.toNat = 10
      · rw [show skN false (c :: r) = skN false r + 1 by rw [skN, if_pos h1], List.drop_succ_cons]; exact ih false
      · by_cases h2 : c.toNat = 59
        · rw [show skN false (c :: r) = skN true r + 1 by rw [skN, if_neg h1, if_pos h2], List.drop_succ_cons]; exact ih true
        · have e : skN false (c :: r) = 0 := by rw [skN, if_neg h1, if_neg h2]
          rw [e, List.drop_zero, e]
    · by_cases h1 : c.toNat = 10
      · rw [show skN true (c :: r) = skN false r + 1 by rw [skN, if_pos h1], List.drop_succ_cons]; exact ih false
      · rw [show skN true (c :: r) = skN true r + 1 by rw [skN, if_neg h1], List.drop_succ_cons]; exact ih true
theorem go_at (f : Nat) (L : List UInt8) (i : Nat) (st : List (List T)) (k : Nat) : go (f + 1) L i st k = go (f + 1) L (i + skN false (L.drop i)) st k := by
  have e : skN false (L.drop (i + skN false (L.drop i))) = 0 := by
    have h := skN_idem false (L.drop i)
    rwa [List.drop_drop] at h
  conv => lhs; unfold go
  conv => rhs; unfold go
  simp only [e, Nat.add_zero]
theorem run_at (L : List UInt8) (i : Nat) (st : List (List T)) (k : Nat) (h : i ≤ L.length) : run L i st k = run L (i + skN false (L.drop i)) st k := by
  have hs := skN_le false (L.drop i)
  simp at hs
  unfold run
  rw [show L.length + 1 - i = (L.length - i) + 1 by omega, go_at]
  exact go_fuel _ _ L _ st k (by omega) (by omega) (by omega)
section
variable {L : List UInt8} {j k : Nat} {c : UInt8} {r : List UInt8}
theorem drop_len (hd : L.drop j = c :: r) : j < L.length := by
  have := congrArg List.length hd
  simp at this; omega
/-- Not a blank, no remark. -/
def Nb (c : UInt8) : Prop := ¬ (c.toNat = 32 ∨ c.toNat = 10) ∧ ¬ c.toNat = 59
theorem skN_nb (h : Nb c) : skN false (c :: r) = 0 := by rw [skN, if_neg h.1, if_neg h.2]
theorem run_body (st : List (List T)) (hd : L.drop j = c :: r) (h : Nb c) :
    run L j st k = (if c.toNat = 41 then
        match st with
        | cur :: par :: rest => run L (j + 1) ((par ++ [.node 4 ⟨#[]⟩ 0 cur]) :: rest) k
        | _ => .err j 31
      else if c.toNat = 40 then
        if 65536 < k + 1 ∨ 32 < st.length then .err j 33
        else run L (j + 1) ([] :: st) (k + 1)
      else match leaf c r with
        | .inl d => .err (j + d) 31
        | .inr (t, n) => if 65536 < k + 1 then .err j 33
          else match st with
            | cur :: rest => run L (j + n) ((cur ++ [t]) :: rest) (k + 1)
            | [] => .err j 0) := by
  have hl := drop_len hd
  have hr : r.length + 1 = L.length - j := by have := congrArg List.length hd; simp at this; omega
  have e1 : run L j st k = go (L.length - j + 1) L j st k := by unfold run; rw [show L.length + 1 - j = (L.length - j) + 1 by omega]
  rw [e1]
  unfold go
  simp only [hd, skN_nb h, Nat.add_zero]
  rcases hlf : leaf c r with d | ⟨t, n⟩
  · rcases st with _ | ⟨a, _ | ⟨b, rest⟩⟩
    all_goals
      simp only
      split
      · first | rfl | exact go_fuel _ _ L _ _ _ (by omega) (by omega) (by omega)
      · split
        · split
          · rfl
          · exact go_fuel _ _ L _ _ _ (by omega) (by omega) (by omega)
        · rfl
  · have hn := leaf_len hlf
    rcases st with _ | ⟨a, _ | ⟨b, rest⟩⟩
    all_goals
      simp only
      split
      · first | rfl | exact go_fuel _ _ L _ _ _ (by omega) (by omega) (by omega)
      · split
        · split
          · rfl
          · exact go_fuel _ _ L _ _ _ (by omega) (by omega) (by omega)
        · split
          · rfl
          · first | rfl | exact go_fuel _ _ L _ _ _ (by omega) (by omega) (by omega)
theorem run_end (top : List T) : run L L.length [top] k = .ok top := by
  unfold run
  rw [show L.length + 1 - L.length = 0 + 1 by omega]
  unfold go
  simp [skN]
theorem run_end_open (a b : List T) (rest : List (List T)) : run L L.length (a :: b :: rest) k = .err L.length 31 := by
  unfold run
  rw [show L.length + 1 - L.length = 0 + 1 by omega]
  unfold go
  simp [skN]
theorem run_cls {cur par : List T} {rest : List (List T)} (hd : L.drop j = c :: r) (hc : c.toNat = 41) : run L j (cur :: par :: rest) k = run L (j + 1) ((par ++ [.node 4 ⟨#[]⟩ 0 cur]) :: rest) k := by
  rw [run_body _ hd ⟨by omega, by omega⟩, if_pos hc]
theorem run_cls_top {cur : List T} (hd : L.drop j = c :: r) (hc : c.toNat = 41) : run L j [cur] k = .err j 31 := by
  rw [run_body _ hd ⟨by omega, by omega⟩, if_pos hc]
theorem run_opn {st : List (List T)} (hd : L.drop j = c :: r) (hc : c.toNat = 40) (h1 : k < 65536) (h2 : st.length ≤ 32) : run L j st k = run L (j + 1) ([] :: st) (k + 1) := by
  rw [run_body _ hd ⟨by omega, by omega⟩, if_neg (by omega), if_pos hc, if_neg (by omega)]
theorem run_opn_no {st : List (List T)} (hd : L.drop j = c :: r) (hc : c.toNat = 40) (h : 65536 ≤ k ∨ 32 < st.length) : run L j st k = .err j 33 := by
  rw [run_body _ hd ⟨by omega, by omega⟩, if_neg (by omega), if_pos hc, if_pos (by omega)]
theorem run_leaf {t : T} {n : Nat} {cur : List T} {rest : List (List T)} (hd : L.drop j = c :: r) (h : Nb c) (h1 : c.toNat ≠ 41) (h2 : c.toNat ≠ 40) (hl : leaf c r = .inr (t, n)) (hk : k < 65536) : run L j (cur :: rest) k = run L (j + n) ((cur ++ [t]) :: rest) (k + 1) := by
  rw [run_body _ hd h, if_neg h1, if_neg h2, hl]
  simp only
  rw [if_neg (by omega)]
theorem run_leaf_many {t : T} {n : Nat} {st : List (List T)} (hd : L.drop j = c :: r) (h : Nb c) (h1 : c.toNat ≠ 41) (h2 : c.toNat ≠ 40) (hl : leaf c r = .inr (t, n)) (hk : 65536 ≤ k) : run L j st k = .err j 33 := by
  rw [run_body _ hd h, if_neg h1, if_neg h2, hl]
  simp only
  rw [if_pos (by omega)]
theorem run_leaf_bad {d : Nat} {st : List (List T)} (hd : L.drop j = c :: r) (h : Nb c) (h1 : c.toNat ≠ 41) (h2 : c.toNat ≠ 40) (hl : leaf c r = .inl d) : run L j st k = .err (j + d) 31 := by
  rw [run_body _ hd h, if_neg h1, if_neg h2, hl]
end
end Go.Proofs.YtcndmiolaheaeaaGreatDoor
