/- The machine over a text that lies within another; nothing of the program. -/
import Derived.Test.YtonlmennpbklgaaDoorSn
import Derived.Test.YtonlmennpbklgaaDoorSbc
import Derived.Test.YtonlmennpbklgaaDoorSbb
namespace Go.Proofs.YtonlmennpbklgaaDoor
open Go.RowKit
set_option linter.unusedSimpArgs false
set_option linter.unusedVariables false

def sumS : List (List T) → Nat
  | [] => 0
  | l :: r => cntL l + sumS r
def dS : List (List T) → Nat
  | [] => 0
  | l :: r => max (r.length + depL l) (dS r)
theorem nb_skip {c : UInt8} {r : List UInt8} (h : skN false (c :: r) = 0) : Nb c := by
  unfold skN at h
  constructor
  · intro hc; rw [if_pos hc] at h; omega
  · intro hc; by_cases h1 : c.toNat = 32 ∨ c.toNat = 10
    · omega
    · rw [if_neg h1, if_pos hc] at h; omega
theorem skN_app (b : Bool) (Z W : List UInt8) (h : Z.drop (skN b Z) ≠ []) : skN b (Z ++ W) = skN b Z := by
  induction Z generalizing b with
  | nil => simp at h
  | cons c r ih =>
    cases b
    · by_cases h1 : c.toNat = 32 ∨ c.toNat = 10
      · rw [show skN false (c :: r) = skN false r + 1 by rw [skN, if_pos h1]] at h ⊢
        rw [List.cons_append, show skN false (c :: (r ++ W)) = skN false (r ++ W) + 1 by rw [skN, if_pos h1], ih false (by simpa using h)]
      · by_cases h2 : c.toNat = 59
        · rw [show skN false (c :: r) = skN true r + 1 by rw [skN, if_neg h1, if_pos h2]] at h ⊢
          rw [List.cons_append, show skN false (c :: (r ++ W)) = skN true (r ++ W) + 1 by rw [skN, if_neg h1, if_pos h2], ih true (by simpa using h)]
        · rw [List.cons_append, show skN false (c :: r) = 0 by rw [skN, if_neg h1, if_neg h2], show skN false (c :: (r ++ W)) = 0 by rw [skN, if_neg h1, if_neg h2]]
    · by_cases h1 : c.toNat = 10
      · rw [show skN true (c :: r) = skN false r + 1 by rw [skN, if_pos h1]] at h ⊢
        rw [List.cons_append, show skN true (c :: (r ++ W)) = skN false (r ++ W) + 1 by rw [skN, if_pos h1], ih false (by simpa using h)]
      · rw [show skN true (c :: r) = skN true r + 1 by rw [skN, if_neg h1]] at h ⊢
        rw [List.cons_append, show skN true (c :: (r ++ W)) = skN true (r ++ W) + 1 by rw [skN, if_neg h1], ih true (by simpa using h)]
theorem skN_all (b : Bool) (Z Y : List UInt8) (h : Z.drop (skN b Z) = []) : skN b (Z ++ 10 :: Y) = Z.length + (1 + skN false Y) := by
  induction Z generalizing b with
  | nil => cases b <;> simp [skN] <;> omega
  | cons c r ih =>
    cases b
    · by_cases h1 : c.toNat = 32 ∨ c.toNat = 10
      · rw [show skN false (c :: r) = skN false r + 1 by rw [skN, if_pos h1]] at h
        rw [List.cons_append, show skN false (c :: (r ++ 10 :: Y)) = skN false (r ++ 10 :: Y) + 1 by rw [skN, if_pos h1], ih false (by simpa using h)]; simp; omega
      · by_cases h2 : c.toNat = 59
        · rw [show skN false (c :: r) = skN true r + 1 by rw [skN, if_neg h1, if_pos h2]] at h
          rw [List.cons_append, show skN false (c :: (r ++ 10 :: Y)) = skN true (r ++ 10 :: Y) + 1 by rw [skN, if_neg h1, if_pos h2], ih true (by simpa using h)]; simp; omega
        · rw [show skN false (c :: r) = 0 by rw [skN, if_neg h1, if_neg h2]] at h; simp at h
    · by_cases h1 : c.toNat = 10
      · rw [show skN true (c :: r) = skN false r + 1 by rw [skN, if_pos h1]] at h
        rw [List.cons_append, show skN true (c :: (r ++ 10 :: Y)) = skN false (r ++ 10 :: Y) + 1 by rw [skN, if_pos h1], ih false (by simpa using h)]; simp; omega
      · rw [show skN true (c :: r) = skN true r + 1 by rw [skN, if_neg h1]] at h
        rw [List.cons_append, show skN true (c :: (r ++ 10 :: Y)) = skN true (r ++ 10 :: Y) + 1 by rw [skN, if_neg h1], ih true (by simpa using h)]; simp; omega
theorem textL_app {r : List UInt8} {a m : Nat} (W : List UInt8) (h : textL r a = .closed m) : textL (r ++ W) a = .closed m := by
  induction r generalizing a with
  | nil => cases h
  | cons c r ih =>
    rw [List.cons_append]
    unfold textL at h ⊢
    by_cases h1 : c.toNat = 10
    · rw [if_pos h1] at h; cases h
    · rw [if_neg h1] at h ⊢
      by_cases h2 : c.toNat = 34
      · rw [if_pos h2] at h ⊢; exact h
      · rw [if_neg h2] at h ⊢
        by_cases h3 : txB c = true
        · rw [if_pos h3] at h ⊢; exact ih h
        · rw [if_neg h3] at h; cases h
theorem ruN_app (Z Y : List UInt8) : ruN (Z ++ 10 :: Y) = ruN Z := by
  induction Z with
  | nil => simp [ruN, inB]
  | cons c r ih => rw [List.cons_append]; unfold ruN; rw [ih]
theorem take_app (Z W : List UInt8) (n : Nat) (h : n ≤ Z.length) : (Z ++ W).take n = Z.take n := by rw [List.take_append_of_le_length h]
theorem leaf_app {c : UInt8} {r : List UInt8} {t : T} {n : Nat} (Y : List UInt8) (h : leaf c r = .inr (t, n)) : leaf c (r ++ 10 :: Y) = .inr (t, n) := by
  have hr : ruN (c :: (r ++ 10 :: Y)) = ruN (c :: r) := by rw [← List.cons_append]; exact ruN_app _ _
  have ht : (c :: (r ++ 10 :: Y)).take (ruN (c :: r)) = (c :: r).take (ruN (c :: r)) := by rw [← List.cons_append]; exact take_app _ _ _ (ruN_le _)
  unfold leaf at h ⊢
  rw [hr, ht]
  by_cases h1 : c.toNat = 34
  · rw [if_pos h1] at h ⊢
    cases hq : textL r 0 with
    | closed m =>
      rw [hq] at h
      rw [textL_app _ hq]
      have := textL_le hq
      simp only at h ⊢
      rw [take_app _ _ _ (by omega)]; exact h
    | wrong m => rw [hq] at h; cases h
    | unclosed => rw [hq] at h; cases h
  · rw [if_neg h1] at h ⊢; exact h
theorem leaf_kind {c : UInt8} {r : List UInt8} {t : T} {n : Nat} (h : leaf c r = .inr (t, n)) : ∃ k s m, t = .node k s m [] ∧ k ≠ 4 := by
  unfold leaf at h
  split at h
  · split at h
    · injection h with h; injection h with h _; exact ⟨3, _, _, h.symm, by decide⟩
    · cases h
    · cases h
  · split at h
    · split at h
      · split at h
        · injection h with h; injection h with h _; exact ⟨2, _, _, h.symm, by decide⟩
        · cases h
      · injection h with h; injection h with h _; exact ⟨1, _, _, h.symm, by decide⟩
    · cases h
/-- What is open is in the answer: the count, the depth. -/
theorem go_bound (L : List UInt8) (l : List T) : ∀ (f i : Nat) (st : List (List T)) (k : Nat), go f L i st k = .ok l → k + 1 = sumS st + st.length → k ≤ cntL l ∧ dS st ≤ depL l := by
  intro f
  induction f with
  | zero => intro i st k h; cases h
  | succ f ih =>
    intro i st k h hk
    unfold go at h
    split at h
    · split at h
      · injection h with h; subst h; simp [sumS] at hk; simp [dS]; omega
      · cases h
    · next c r hd =>
      split at h
      · split at h
        · next cur par rest =>
          have := ih _ _ _ h (by simp [sumS, cntL_snoc] at hk ⊢; omega)
          refine ⟨this.1, Nat.le_trans ?_ this.2⟩
          simp only [dS, depL_snoc, List.length_cons, if_true]; omega
        · cases h
      · split at h
        · split at h
          · cases h
          · have := ih _ _ _ h (by simp [sumS, cntL]; omega)
            refine ⟨by omega, Nat.le_trans ?_ this.2⟩
            simp only [dS]; omega
        · split at h
          · cases h
          · next t n hl =>
            obtain ⟨k', s', m', rfl, hk4⟩ := leaf_kind hl
            split at h
            · cases h
            · split at h
              · next cur rest =>
                have := ih _ _ _ h (by simp [sumS, cntL_snoc, cntL] at hk ⊢; omega)
                refine ⟨by omega, Nat.le_trans ?_ this.2⟩
                simp only [dS, depL_snoc, if_neg hk4]; omega
              · cases h
end Go.Proofs.YtonlmennpbklgaaDoor
