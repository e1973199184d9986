/- A right text within another: the machine over the whole; nothing of the program. -/
import Derived.Test.YtonlmennpbklgaaDoorSbd
namespace Go.Proofs.YtonlmennpbklgaaDoor
open Go.RowKit
set_option linter.unusedSimpArgs false
set_option linter.unusedVariables false

theorem drop_app {L' X Y : List UInt8} {a : Nat} (hd : L'.drop a = X ++ 10 :: Y) (i : Nat) (hi : i ≤ X.length) : L'.drop (a + i) = X.drop i ++ 10 :: Y := by
  rw [← List.drop_drop, hd, List.drop_append_of_le_length hi]
/-- The stack of the inner text, its lowest list behind what was there, on the outer stack. -/
theorem run_embed {L' X Y : List UInt8} {a k0 : Nat} {l cur0 : List T} {rest0 : List (List T)} (hd : L'.drop a = X ++ 10 :: Y) (hk0 : k0 + cntL l ≤ 65536) (hd0 : depL l + rest0.length ≤ 32) :
    ∀ (f i : Nat) (up : List (List T)) (bot : List T) (k : Nat), go f X i (up ++ [bot]) k = .ok l → X.length < i + f → i ≤ X.length → k + 1 = sumS (up ++ [bot]) + (up ++ [bot]).length →
    run L' (a + i) (up ++ (cur0 ++ bot) :: rest0) (k0 + k) = run L' (a + X.length) ((cur0 ++ l) :: rest0) (k0 + cntL l) := by
  have hal : a + X.length < L'.length := by
    have := congrArg List.length hd
    simp at this; omega
  intro f
  induction f with
  | zero => intro i up bot k h; cases h
  | succ f ih =>
    intro i up bot k h hf hi hk
    have hb := go_bound X l (f + 1) i (up ++ [bot]) k h hk
    have hsk := skN_le false (X.drop i)
    simp at hsk
    have hdi := drop_app hd i hi
    have hend := drop_app hd X.length (Nat.le_refl _)
    unfold go at h
    generalize hj : i + skN false (X.drop i) = j at *
    have hjl : j ≤ X.length := by omega
    split at h
    · next hx =>
      split at h
      · next top ht =>
        injection h with h; subst h
        have hup : up = [] := by
          rcases up with _ | ⟨u, up⟩
          · rfl
          · have := congrArg List.length ht; simp at this
        subst hup
        simp at ht
        subst ht
        simp [sumS] at hk
        subst hk
        have hall : skN false (X.drop i ++ 10 :: Y) = (X.drop i).length + (1 + skN false Y) := skN_all false _ _ (by rw [List.drop_drop, hj]; exact hx)
        simp only [List.nil_append]
        rw [run_at L' (a + i) _ _ (by omega), run_at L' (a + X.length) _ _ (by omega), hdi, hend, hall]
        simp only [List.drop_length, List.nil_append, List.length_drop]
        rw [show skN false (10 :: Y) = 1 + skN false Y by rw [skN, if_pos (by right; rfl)]; omega]
        congr 1
        omega
      · cases h
    · next c r hx =>
      have hlt := drop_len hx
      have hnb : Nb c := nb_skip (r := r) (by rw [← hx, ← hj, ← List.drop_drop]; exact skN_idem false _)
      have hsk2 : skN false (X.drop i ++ 10 :: Y) = skN false (X.drop i) := skN_app false _ _ (by rw [List.drop_drop, hj, hx]; simp)
      have hdj : L'.drop (a + j) = c :: (r ++ 10 :: Y) := by rw [drop_app hd j hjl, hx]; rfl
      have hto : run L' (a + i) (up ++ (cur0 ++ bot) :: rest0) (k0 + k) = run L' (a + j) (up ++ (cur0 ++ bot) :: rest0) (k0 + k) := by
        rw [run_at L' (a + i) _ _ (by omega), hdi, hsk2]; congr 1; omega
      rw [hto]
      clear hto hsk hsk2 hend hdi
      split at h
      · next hc =>
        rcases up with _ | ⟨u, _ | ⟨v, up⟩⟩
        · cases h
        · simp only [List.cons_append, List.nil_append] at h hk ⊢
          rw [run_cls hdj hc]
          have := ih (j + 1) [] _ k h (by omega) (by omega) (by simp [sumS, cntL_snoc] at hk ⊢; omega)
          simp only [List.nil_append, ← List.append_assoc] at this
          exact this
        · simp only [List.cons_append] at h hk ⊢
          rw [run_cls hdj hc]
          exact ih (j + 1) ((v ++ [T.node 4 ⟨#[]⟩ 0 u]) :: up) bot k h (by omega) (by omega) (by simp [sumS, cntL_snoc] at hk ⊢; omega)
      · next hc =>
        split at h
        · next hc2 =>
          split at h
          · cases h
          · next hno =>
            have hb2 := go_bound X l f (j + 1) ([] :: (up ++ [bot])) (k + 1) h (by simp [sumS, cntL] at hk ⊢; omega)
            have hds : (up ++ [bot]).length ≤ depL l := by have := hb2.2; simp [dS] at this; simp; omega
            simp at hds
            rw [run_opn hdj hc2 (by omega) (by simp; omega)]
            exact ih (j + 1) ([] :: up) bot (k + 1) h (by omega) (by omega) (by simp [sumS, cntL] at hk ⊢; omega)
        · next hc2 =>
          split at h
          · cases h
          · next t n hl =>
            obtain ⟨k', s', m', rfl, _⟩ := leaf_kind hl
            have hn := leaf_len hl
            have hrl : r.length + 1 = X.length - j := by have := congrArg List.length hx; simp at this; omega
            split at h
            · cases h
            · rcases up with _ | ⟨u, up⟩
              · simp only [List.nil_append] at h hk ⊢
                have hk2 : k + 1 + 1 = sumS [bot ++ [T.node k' s' m' []]] + [bot ++ [T.node k' s' m' []]].length := by simp [sumS, cntL_snoc, cntL] at hk ⊢; omega
                have hb2 := go_bound X l f _ _ _ h hk2
                rw [run_leaf hdj hnb hc hc2 (leaf_app Y hl) (by omega)]
                have := ih (j + n) [] _ (k + 1) h (by omega) (by omega) hk2
                simp only [List.nil_append, ← List.append_assoc] at this
                rw [show a + j + n = a + (j + n) by omega, show k0 + k + 1 = k0 + (k + 1) by omega]
                exact this
              · simp only [List.cons_append] at h hk ⊢
                have hk2 : k + 1 + 1 = sumS ((u ++ [T.node k' s' m' []]) :: (up ++ [bot])) + ((u ++ [T.node k' s' m' []]) :: (up ++ [bot])).length := by simp [sumS, cntL_snoc, cntL] at hk ⊢; omega
                have hb2 := go_bound X l f _ _ _ h hk2
                rw [run_leaf hdj hnb hc hc2 (leaf_app Y hl) (by omega)]
                rw [show a + j + n = a + (j + n) by omega, show k0 + k + 1 = k0 + (k + 1) by omega]
                exact ih (j + n) ((u ++ [T.node k' s' m' []]) :: up) _ (k + 1) h (by omega) (by omega) hk2
/-- A right text from its begin. -/
theorem run_within {L' X Y : List UInt8} {a k0 : Nat} {l cur0 : List T} {rest0 : List (List T)} (hd : L'.drop a = X ++ 10 :: Y) (h : run X 0 [[]] 0 = .ok l) (hk0 : k0 + cntL l ≤ 65536) (hd0 : depL l + rest0.length ≤ 32) :
    run L' a (cur0 :: rest0) k0 = run L' (a + X.length) ((cur0 ++ l) :: rest0) (k0 + cntL l) := by
  have := run_embed (cur0 := cur0) (rest0 := rest0) hd hk0 hd0 (X.length + 1) 0 [] [] 0 (by unfold run at h; simpa using h) (by omega) (by omega) (by simp [sumS, cntL])
  simpa using this
/-- Between parentheses. -/
theorem run_wrapped {X : List UInt8} {l : List T} (h : run X 0 [[]] 0 = .ok l) (hc : cntL l < 65536) (hd : depL l < 32) : run (40 :: (X ++ [10, 41])) 0 [[]] 0 = .ok [.node 4 ⟨#[]⟩ 0 l] := by
  have e1 : run (40 :: (X ++ [10, 41])) 0 [[]] 0 = run (40 :: (X ++ [10, 41])) (0 + 1) [[], []] (0 + 1) := run_opn (j := 0) (c := 40) (r := X ++ [10, 41]) rfl rfl (by omega) (by simp)
  rw [e1]
  have e2 := run_within (L' := 40 :: (X ++ [10, 41])) (a := 0 + 1) (k0 := 0 + 1) (cur0 := []) (rest0 := [[]]) (Y := [41]) (X := X) (l := l) rfl h (by omega) (by simp; omega)
  rw [e2]
  have hdd : (40 :: (X ++ [10, 41])).drop (0 + 1 + X.length) = [10, 41] := by
    rw [show 0 + 1 + X.length = X.length + 1 by omega, List.drop_succ_cons]; simp
  rw [run_at _ _ _ _ (by simp; omega), hdd, show skN false [10, 41] = 1 by rfl]
  have hd41 : (40 :: (X ++ [10, 41])).drop (0 + 1 + X.length + 1) = [41] := by
    rw [← List.drop_drop, hdd]; rfl
  rw [run_cls hd41 rfl]
  have hlen : (40 :: (X ++ [10, 41])).length = 0 + 1 + X.length + 1 + 1 := by simp; omega
  rw [← hlen, run_end]
  simp
/-- The errors have their numbers. -/
theorem go_err (L : List UInt8) : ∀ (f i : Nat) (st : List (List T)) (k a : Nat) (e : Int), go f L i st k = .err a e → L.length < i + f → i ≤ L.length → st ≠ [] → e = 31 ∨ e = 33 := by
  intro f
  induction f with
  | zero => intro i st k a e _ h1 h2; omega
  | succ f ih =>
    intro i st k a e h hf hi hst
    have hsk := skN_le false (L.drop i)
    simp at hsk
    unfold go at h
    split at h
    · split at h
      · cases h
      · injection h with _ h; exact .inl h.symm
    · next c r hx =>
      have hlt := drop_len hx
      have hrl : r.length + 1 = L.length - (i + skN false (L.drop i)) := by have := congrArg List.length hx; simp at this; omega
      split at h
      · split at h
        · exact ih _ _ _ _ _ h (by omega) (by omega) (by simp)
        · injection h with _ h; exact .inl h.symm
      · split at h
        · split at h
          · injection h with _ h; exact .inr h.symm
          · exact ih _ _ _ _ _ h (by omega) (by omega) (by simp)
        · split at h
          · injection h with _ h; exact .inl h.symm
          · next t n hl =>
            have hn := leaf_len hl
            split at h
            · injection h with _ h; exact .inr h.symm
            · split at h
              · exact ih _ _ _ _ _ h (by omega) (by omega) (by simp)
              · exact absurd rfl hst
theorem run_err {L : List UInt8} {a : Nat} {e : Int} (h : run L 0 [[]] 0 = .err a e) : e = 31 ∨ e = 33 := by
  unfold run at h
  exact go_err L _ 0 _ _ _ _ h (by omega) (by omega) (by simp)
/-- How many a right text's trees are. -/
theorem go_cnt (L : List UInt8) (l : List T) : ∀ (f i : Nat) (st : List (List T)) (k : Nat), go f L i st k = .ok l → k + 1 = sumS st + st.length → k ≤ 65536 → cntL l ≤ 65536 := by
  intro f
  induction f with
  | zero => intro i st k h; cases h
  | succ f ih =>
    intro i st k h hk hk6
    unfold go at h
    split at h
    · split at h
      · injection h with h; subst h; simp [sumS] at hk; omega
      · cases h
    · split at h
      · split at h
        · exact ih _ _ _ h (by simp [sumS, cntL_snoc] at hk ⊢; omega) hk6
        · cases h
      · split at h
        · split at h
          · cases h
          · exact ih _ _ _ h (by simp [sumS, cntL]; omega) (by omega)
        · split at h
          · cases h
          · next t n hl =>
            obtain ⟨k', s', m', rfl, hk4⟩ := leaf_kind hl
            split at h
            · cases h
            · split at h
              · exact ih _ _ _ h (by simp [sumS, cntL_snoc, cntL] at hk ⊢; omega) (by omega)
              · cases h
theorem run_cnt {L : List UInt8} {l : List T} (h : run L 0 [[]] 0 = .ok l) : cntL l ≤ 65536 := by
  unfold run at h
  exact go_cnt L l _ 0 _ _ h (by simp [sumS, cntL]) (by omega)
end Go.Proofs.YtonlmennpbklgaaDoor
