/- Two right texts, one behind the other: the machine; nothing of the program. -/
import Derived.Test.YtonlmennpbklgaaDoorSbe
namespace Go.Proofs.YtonlmennpbklgaaDoor
open Go.RowKit
set_option linter.unusedSimpArgs false
set_option linter.unusedVariables false

/-- How deep a right text's trees are. -/
theorem go_dep (L : List UInt8) (l : List T) : ∀ (f i : Nat) (st : List (List T)) (k : Nat), go f L i st k = .ok l → dS st ≤ 32 → depL l ≤ 32 := by
  intro f
  induction f with
  | zero => intro i st k h; cases h
  | succ f ih =>
    intro i st k h hk
    unfold go at h
    split at h
    · split at h
      · injection h with h; subst h; simp [dS] at hk; omega
      · cases h
    · split at h
      · split at h
        · exact ih _ _ _ h (by simp only [dS, depL_snoc, List.length_cons, if_true] at hk ⊢; omega)
        · cases h
      · split at h
        · split at h
          · cases h
          · exact ih _ _ _ h (by simp only [dS, depL]; omega)
        · split at h
          · cases h
          · next t n hl =>
            obtain ⟨k', s', m', rfl, hk4⟩ := leaf_kind hl
            split at h
            · cases h
            · split at h
              · exact ih _ _ _ h (by simp only [dS, depL_snoc, if_neg hk4] at hk ⊢; omega)
              · cases h
theorem run_dep {L : List UInt8} {l : List T} (h : run L 0 [[]] 0 = .ok l) : depL l ≤ 32 := by
  unfold run at h
  exact go_dep L l _ 0 _ _ h (by simp [dS, depL])
/-- The same, where the inner text is the outer one's end. -/
theorem run_last {L' X : List UInt8} {a k0 : Nat} {l cur0 : List T} {rest0 : List (List T)} (hd : L'.drop a = X) (ha : a ≤ L'.length) (hk0 : k0 + cntL l ≤ 65536) (hd0 : depL l + rest0.length ≤ 32) :
    ∀ (f i : Nat) (up : List (List T)) (bot : List T) (k : Nat), go f X i (up ++ [bot]) k = .ok l → X.length < i + f → i ≤ X.length → k + 1 = sumS (up ++ [bot]) + (up ++ [bot]).length →
    run L' (a + i) (up ++ (cur0 ++ bot) :: rest0) (k0 + k) = run L' (a + X.length) ((cur0 ++ l) :: rest0) (k0 + cntL l) := by
  have hal : a + X.length = L'.length := by
    have := congrArg List.length hd
    simp at this; omega
  have drop_at2 : ∀ i, L'.drop (a + i) = X.drop i := fun i => by rw [← List.drop_drop, hd]
  intro f
  induction f with
  | zero => intro i up bot k h; cases h
  | succ f ih =>
    intro i up bot k h hf hi hk
    have hb := go_bound X l (f + 1) i (up ++ [bot]) k h hk
    have hsk := skN_le false (X.drop i)
    simp at hsk
    have hdi := drop_at2 i
    unfold go at h
    generalize hj : i + skN false (X.drop i) = j at *
    have hjl : j ≤ X.length := by omega
    split at h
    · next hx =>
      split at h
      · next top ht =>
        injection h with h; subst h
        have hup : up = [] := by
          rcases up with _ | ⟨u, up⟩
          · rfl
          · have := congrArg List.length ht; simp at this
        subst hup
        simp at ht
        subst ht
        simp [sumS] at hk
        subst hk
        have hjX : j = X.length := by
          have := congrArg List.length hx
          simp at this; omega
        simp only [List.nil_append]
        rw [run_at L' (a + i) _ _ (by omega), hdi, show a + i + skN false (X.drop i) = a + X.length by omega]
      · cases h
    · next c r hx =>
      have hlt := drop_len hx
      have hnb : Nb c := nb_skip (r := r) (by rw [← hx, ← hj, ← List.drop_drop]; exact skN_idem false _)
      have hdj : L'.drop (a + j) = c :: r := by rw [drop_at2 j, hx]
      have hto : run L' (a + i) (up ++ (cur0 ++ bot) :: rest0) (k0 + k) = run L' (a + j) (up ++ (cur0 ++ bot) :: rest0) (k0 + k) := by
        rw [run_at L' (a + i) _ _ (by omega), hdi]; congr 1; omega
      rw [hto]
      clear hto hsk hdi
      split at h
      · next hc =>
        rcases up with _ | ⟨u, _ | ⟨v, up⟩⟩
        · cases h
        · simp only [List.cons_append, List.nil_append] at h hk ⊢
          rw [run_cls hdj hc]
          have := ih (j + 1) [] _ k h (by omega) (by omega) (by simp [sumS, cntL_snoc] at hk ⊢; omega)
          simp only [List.nil_append, ← List.append_assoc] at this
          exact this
        · simp only [List.cons_append] at h hk ⊢
          rw [run_cls hdj hc]
          exact ih (j + 1) ((v ++ [T.node 4 ⟨#[]⟩ 0 u]) :: up) bot k h (by omega) (by omega) (by simp [sumS, cntL_snoc] at hk ⊢; omega)
      · next hc =>
        split at h
        · next hc2 =>
          split at h
          · cases h
          · next hno =>
            have hb2 := go_bound X l f (j + 1) ([] :: (up ++ [bot])) (k + 1) h (by simp [sumS, cntL] at hk ⊢; omega)
            have hds : (up ++ [bot]).length ≤ depL l := by have := hb2.2; simp [dS] at this; simp; omega
            simp at hds
            rw [run_opn hdj hc2 (by omega) (by simp; omega)]
            exact ih (j + 1) ([] :: up) bot (k + 1) h (by omega) (by omega) (by simp [sumS, cntL] at hk ⊢; omega)
        · next hc2 =>
          split at h
          · cases h
          · next t n hl =>
            obtain ⟨k', s', m', rfl, _⟩ := leaf_kind hl
            have hn := leaf_len hl
            have hrl : r.length + 1 = X.length - j := by have := congrArg List.length hx; simp at this; omega
            split at h
            · cases h
            · rcases up with _ | ⟨u, up⟩
              · simp only [List.nil_append] at h hk ⊢
                have hk2 : k + 1 + 1 = sumS [bot ++ [T.node k' s' m' []]] + [bot ++ [T.node k' s' m' []]].length := by simp [sumS, cntL_snoc, cntL] at hk ⊢; omega
                have hb2 := go_bound X l f _ _ _ h hk2
                rw [run_leaf hdj hnb hc hc2 hl (by omega)]
                have := ih (j + n) [] _ (k + 1) h (by omega) (by omega) hk2
                simp only [List.nil_append, ← List.append_assoc] at this
                rw [show a + j + n = a + (j + n) by omega, show k0 + k + 1 = k0 + (k + 1) by omega]
                exact this
              · simp only [List.cons_append] at h hk ⊢
                have hk2 : k + 1 + 1 = sumS ((u ++ [T.node k' s' m' []]) :: (up ++ [bot])) + ((u ++ [T.node k' s' m' []]) :: (up ++ [bot])).length := by simp [sumS, cntL_snoc, cntL] at hk ⊢; omega
                have hb2 := go_bound X l f _ _ _ h hk2
                rw [run_leaf hdj hnb hc hc2 hl (by omega)]
                rw [show a + j + n = a + (j + n) by omega, show k0 + k + 1 = k0 + (k + 1) by omega]
                exact ih (j + n) ((u ++ [T.node k' s' m' []]) :: up) _ (k + 1) h (by omega) (by omega) hk2
/-- Two texts with a line feed between. -/
theorem run_joined {A B : List UInt8} {x y : List T} (hx : run A 0 [[]] 0 = .ok x) (hy : run B 0 [[]] 0 = .ok y) (hc : cntL x + cntL y ≤ 65536) : run (A ++ 10 :: B) 0 [[]] 0 = .ok (x ++ y) := by
  have e1 := run_within (L' := A ++ 10 :: B) (a := 0) (k0 := 0) (cur0 := []) (rest0 := []) (Y := B) rfl hx (by omega) (by have := run_dep hx; simpa using this)
  simp only [List.nil_append, Nat.zero_add] at e1
  rw [e1]
  have hd1 : (A ++ 10 :: B).drop A.length = 10 :: B := by simp
  have hd2 : (A ++ 10 :: B).drop (A.length + 1) = B := by rw [← List.drop_drop, hd1]; rfl
  have hlen : (A ++ 10 :: B).length = A.length + 1 + B.length := by simp; omega
  have e2 : run (A ++ 10 :: B) A.length [x] (cntL x) = run (A ++ 10 :: B) (A.length + 1) [x] (cntL x) := by
    rw [run_at _ A.length _ _ (by omega), run_at _ (A.length + 1) _ _ (by omega), hd1, hd2, show skN false (10 :: B) = skN false B + 1 by rw [skN, if_pos (by right; rfl)]]
    congr 1
    omega
  rw [e2]
  have e3 := run_last (L' := A ++ 10 :: B) (X := B) (a := A.length + 1) (k0 := cntL x) (cur0 := x) (rest0 := []) (l := y) hd2 (by omega) (by omega) (by have := run_dep hy; simpa using this) (B.length + 1) 0 [] [] 0 (by unfold run at hy; simpa using hy) (by omega) (by omega) (by simp [sumS, cntL])
  simp only [List.nil_append, List.append_nil, Nat.add_zero] at e3
  rw [e3, ← hlen, run_end]
end Go.Proofs.YtonlmennpbklgaaDoor
