/- What is read is sound; nothing of the program. -/
import Derived.Test.YtonlmennpbklgaaDoorTb
namespace Go.Proofs.YtonlmennpbklgaaDoor
open Go.RowKit
set_option linter.unusedSimpArgs false
set_option linter.unusedVariables false

theorem run_all (l : List UInt8) : (l.take (ruN l)).all inB = true := by
  induction l with
  | nil => rfl
  | cons c r ih =>
    show ((c :: r).take (if inB c then ruN r + 1 else 0)).all inB = true
    split
    · next h => rw [List.take_succ_cons, List.all_cons, h, ih]; rfl
    · rfl
theorem textL_all : ∀ (r : List UInt8) (a m : Nat), textL r a = .closed m → a ≤ m ∧ (r.take (m - a)).all txB = true
  | [], a, m, h => by cases h
  | c :: r, a, m, h => by
    rw [show textL (c :: r) a = if c.toNat = 10 then Q.unclosed else if c.toNat = 34 then .closed a else if txB c then textL r (a + 1) else .wrong a from rfl] at h
    split at h
    · cases h
    · split at h
      · injection h with h; subst h; exact ⟨Nat.le_refl _, by simp⟩
      · split at h
        · next hb =>
          obtain ⟨h1, h2⟩ := textL_all r (a + 1) m h
          refine ⟨by omega, ?_⟩
          rw [show m - a = (m - (a + 1)) + 1 by omega, List.take_succ_cons, List.all_cons, hb, h2]; rfl
        · cases h
theorem leaf_so {c : UInt8} {r : List UInt8} {t : T} {n : Nat} (h : leaf c r = .inr (t, n)) : soT t := by
  unfold leaf at h
  split at h
  · split at h
    · next m e =>
      injection h with h; injection h with h _
      subst h
      obtain ⟨_, h2⟩ := textL_all r 0 m e
      unfold soT
      exact .inr (.inr (.inl ⟨rfl, by unfold textB; simpa using h2, rfl, rfl⟩))
    · cases h
    · cases h
  · split at h
    · next hin =>
      split at h
      · split at h
        · next x e =>
          injection h with h; injection h with h _
          subst h
          unfold soT
          exact .inr (.inl ⟨rfl, rfl, (numL_some e).2, rfl⟩)
        · cases h
      · next hnu =>
        injection h with h; injection h with h _
        subst h
        unfold soT
        refine .inl ⟨rfl, ?_, rfl, rfl⟩
        have hall := run_all (c :: r)
        have hr : ruN (c :: r) = ruN r + 1 := by show (if inB c then ruN r + 1 else 0) = _; rw [if_pos hin]
        unfold wordB
        simp only
        rw [hr, List.take_succ_cons] at hall ⊢
        simp only
        rw [hall]
        simpa using hnu
    · cases h
theorem soL_snoc : ∀ (l : List T) (t : T), soL l → soT t → soL (l ++ [t])
  | [], t, _, h => by simp only [List.nil_append]; unfold soL; exact ⟨h, by unfold soL; trivial⟩
  | x :: r, t, hl, h => by
    unfold soL at hl
    simp only [List.cons_append]
    unfold soL
    exact ⟨hl.1, soL_snoc r t hl.2 h⟩
theorem go_sound (L : List UInt8) (l : List T) : ∀ (f i : Nat) (st : List (List T)) (k : Nat), go f L i st k = .ok l → (∀ x ∈ st, soL x) → soL l := by
  intro f
  induction f with
  | zero => intro i st k h; cases h
  | succ f ih =>
    intro i st k h hs
    unfold go at h
    generalize i + skN false (L.drop i) = j at *
    cases hd : L.drop j with
    | nil =>
      rw [hd] at h
      rcases st with _ | ⟨a, _ | ⟨b, rest⟩⟩
      · cases h
      · injection h with h; subst h; exact hs a (by simp)
      · cases h
    | cons c r =>
      rw [hd] at h
      simp only at h
      split at h
      · rcases st with _ | ⟨a, _ | ⟨b, rest⟩⟩
        · cases h
        · cases h
        · refine ih _ _ _ h ?_
          intro x hx
          rcases List.mem_cons.1 hx with rfl | hx
          · exact soL_snoc b _ (hs b (by simp)) (by unfold soT; exact .inr (.inr (.inr ⟨rfl, rfl, rfl, hs a (by simp)⟩)))
          · exact hs x (by simp [hx])
      · split at h
        · split at h
          · cases h
          · refine ih _ _ _ h ?_
            intro x hx
            rcases List.mem_cons.1 hx with rfl | hx
            · unfold soL; trivial
            · exact hs x hx
        · split at h
          · cases h
          · next t n hlf =>
            split at h
            · cases h
            · rcases st with _ | ⟨a, rest⟩
              · cases h
              · refine ih _ _ _ h ?_
                intro x hx
                rcases List.mem_cons.1 hx with rfl | hx
                · exact soL_snoc a t (hs a (by simp)) (leaf_so hlf)
                · exact hs x (by simp [hx])
theorem run_sound {L : List UInt8} {l : List T} (h : run L 0 [[]] 0 = .ok l) : soL l := go_sound L l _ 0 [[]] 0 h (by intro x hx; simp at hx; subst hx; unfold soL; trivial)
/-- Read, printed, read again: behind a remark and blanks, with a remark behind. -/
theorem run_again {L pre post : List UInt8} {l : List T} (h : run L 0 [[]] 0 = .ok l) (hpre : skN false (pre ++ (prL l ++ post)) = pre.length + skN false (prL l ++ post)) (hpost : skN false post = post.length) (hd : depL l ≤ 32) :
    run (pre ++ (prL l ++ post)) 0 [[]] 0 = .ok l := by
  have hd1 : (pre ++ (prL l ++ post)).drop (0 + pre.length) = prL l ++ post := drop_on (A := pre) (by simp)
  have e1 : run (pre ++ (prL l ++ post)) 0 [[]] 0 = run (pre ++ (prL l ++ post)) (0 + pre.length) [[]] 0 := by
    rw [run_at _ 0 _ _ (by omega), run_at _ (0 + pre.length) _ _ (by simp), hd1, List.drop_zero, hpre]
    congr 1
    omega
  rw [e1, run_prL l _ (0 + pre.length) post [] 0 (run_sound h) hd1 (by have := run_cnt h; omega) hd]
  have hd2 := drop_on hd1
  rw [run_at _ _ _ _ (by simp), hd2, hpost]
  have e2 : 0 + pre.length + (prL l).length + post.length = (pre ++ (prL l ++ post)).length := by simp; omega
  rw [e2, run_end]
  simp
end Go.Proofs.YtonlmennpbklgaaDoor
