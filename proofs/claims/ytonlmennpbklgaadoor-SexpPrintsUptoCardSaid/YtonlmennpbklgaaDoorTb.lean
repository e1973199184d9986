/- What is printed is read as the same trees: the machine; nothing of the program. -/
import Derived.Test.YtonlmennpbklgaaDoorTa
namespace Go.Proofs.YtonlmennpbklgaaDoor
open Go.RowKit
set_option linter.unusedSimpArgs false
set_option linter.unusedVariables false

theorem run_blank {L : List UInt8} {j k : Nat} {c : UInt8} {r : List UInt8} {st : List (List T)} (hd : L.drop j = c :: r) (hc : c.toNat = 32 ∨ c.toNat = 10) : run L j st k = run L (j + 1) st k := by
  have hj := drop_len hd
  have hr : r = L.drop (j + 1) := by rw [← List.drop_drop, hd]; rfl
  rw [run_at L j st k (by omega), run_at L (j + 1) st k (by omega)]
  have e : skN false (L.drop j) = 1 + skN false (L.drop (j + 1)) := by rw [hd, skN, if_pos hc, hr]; omega
  rw [e, show j + (1 + skN false (L.drop (j + 1))) = j + 1 + skN false (L.drop (j + 1)) by omega]
theorem drop_on {L A B : List UInt8} {j : Nat} (hd : L.drop j = A ++ B) : L.drop (j + A.length) = B := by
  rw [← List.drop_drop, hd, List.drop_left']; rfl
theorem prR_cons (t : T) (r : List T) : prR (t :: r) = 32 :: (prT t ++ prR r) := by
  conv => lhs; unfold prR
theorem prR_head (ks : List T) (c0 : UInt8) (Y : List UInt8) (h0 : inB c0 = false) : ∃ c1 Z, prR ks ++ c0 :: Y = c1 :: Z ∧ inB c1 = false := by
  cases ks with
  | nil => exact ⟨c0, Y, by unfold prR; rfl, h0⟩
  | cons t r => exact ⟨32, (prT t ++ prR r) ++ c0 :: Y, by rw [prR_cons]; rfl, by decide⟩
theorem prT_list {n : Int} {s : ByteArray} {ks : List T} : prT (.node 4 s n ks) = 40 :: (prK ks ++ [41]) := by
  unfold prT; rw [if_neg (by decide), if_neg (by decide), if_neg (by decide)]
mutual
theorem run_prT : ∀ (t : T) (L : List UInt8) (j : Nat) (c0 : UInt8) (Y : List UInt8) (cur : List T) (rest : List (List T)) (k : Nat), soT t → L.drop j = prT t ++ c0 :: Y → inB c0 = false → k + cntT t ≤ 65536 → depL [t] + rest.length ≤ 32 →
    run L j (cur :: rest) k = run L (j + (prT t).length) ((cur ++ [t]) :: rest) (k + cntT t)
  | .node kd s n ks, L, j, c0, Y, cur, rest, k, hso, hd, h0, hk, hdp => by
    by_cases h4 : kd = 4
    · subst h4
      have hso' := hso
      unfold soT at hso'
      rcases hso' with ⟨h, _⟩ | ⟨h, _⟩ | ⟨h, _⟩ | ⟨_, rfl, rfl, hl⟩
      · exact absurd h (by decide)
      · exact absurd h (by decide)
      · exact absurd h (by decide)
      rw [prT_list] at hd ⊢
      have hdp' : depL ks + 1 + rest.length ≤ 32 := by simp [depL] at hdp; omega
      have hcnt : cntT (.node 4 ⟨#[]⟩ 0 ks) = 1 + cntL ks := by simp [cntT]
      rw [hcnt] at hk ⊢
      have hd1 : L.drop j = 40 :: ((prK ks ++ [41]) ++ c0 :: Y) := by simpa using hd
      rw [run_opn hd1 (by decide) (by omega) (by simp; omega)]
      have hr1 : L.drop (j + 1) = prK ks ++ 41 :: (c0 :: Y) := by
        have := drop_on (A := [40]) hd1
        simpa using this
      have hk1 : run L (j + 1) ([] :: cur :: rest) (k + 1) = run L (j + 1 + (prK ks).length) (([] ++ ks) :: cur :: rest) (k + 1 + cntL ks) := by
        cases ks with
        | nil => simp [prK, cntL]
        | cons t r =>
          unfold prK at hr1 ⊢
          obtain ⟨c1, Z, e1, hz⟩ := prR_head r 41 (c0 :: Y) (by decide)
          have hdt : L.drop (j + 1) = prT t ++ c1 :: Z := by rw [hr1, List.append_assoc, e1]
          have hct : cntL (t :: r) = cntT t + cntL r := by simp [cntL]
          unfold soL at hl
          have hdt2 : depL [t] ≤ depL (t :: r) ∧ depL r ≤ depL (t :: r) := by cases t; simp only [depL]; omega
          rw [run_prT t L (j + 1) c1 Z [] (cur :: rest) (k + 1) hl.1 hdt hz (by omega) (by simp; omega)]
          have hdr : L.drop (j + 1 + (prT t).length) = prR r ++ 41 :: (c0 :: Y) := by rw [e1]; exact drop_on hdt
          rw [run_prR r L (j + 1 + (prT t).length) (c0 :: Y) ([] ++ [t]) (cur :: rest) (k + 1 + cntT t) hl.2 hdr (by omega) (by simp; omega)]
          rw [hct]
          congr 1
          · simp; omega
          · omega
      rw [hk1]
      have hcl : L.drop (j + 1 + (prK ks).length) = 41 :: (c0 :: Y) := drop_on hr1
      rw [run_cls hcl (by decide)]
      simp only [List.nil_append]
      congr 1
      · simp; omega
      · omega
    · obtain ⟨rfl, c, r, hp, hnb, h41, h40, hl⟩ := leaf_pr hso h4
      have hd1 : L.drop j = c :: (r ++ c0 :: Y) := by rw [hd, hp]; rfl
      have hcnt : cntT (.node kd s n []) = 1 := by simp [cntT, cntL]
      rw [hcnt] at hk ⊢
      exact run_leaf hd1 hnb h41 h40 (hl c0 Y h0) (by omega)
theorem run_prR : ∀ (ks : List T) (L : List UInt8) (j : Nat) (Y : List UInt8) (cur : List T) (rest : List (List T)) (k : Nat), soL ks → L.drop j = prR ks ++ 41 :: Y → k + cntL ks ≤ 65536 → depL ks + rest.length ≤ 32 →
    run L j (cur :: rest) k = run L (j + (prR ks).length) ((cur ++ ks) :: rest) (k + cntL ks)
  | [], L, j, Y, cur, rest, k, _, _, _, _ => by simp [prR, cntL]
  | t :: r, L, j, Y, cur, rest, k, hl, hd, hk, hdp => by
    unfold prR at hd ⊢
    unfold soL at hl
    have hct : cntL (t :: r) = cntT t + cntL r := by simp [cntL]
    have hdt2 : depL [t] ≤ depL (t :: r) ∧ depL r ≤ depL (t :: r) := by cases t; simp only [depL]; omega
    have hd1 : L.drop j = 32 :: ((prT t ++ prR r) ++ 41 :: Y) := by simpa using hd
    rw [run_blank hd1 (.inl (by decide))]
    have hd2 : L.drop (j + 1) = (prT t ++ prR r) ++ 41 :: Y := drop_on (A := [32]) hd1
    obtain ⟨c1, Z, e1, hz⟩ := prR_head r 41 Y (by decide)
    have hdt : L.drop (j + 1) = prT t ++ c1 :: Z := by rw [hd2, List.append_assoc, e1]
    rw [run_prT t L (j + 1) c1 Z cur rest k hl.1 hdt hz (by omega) (by omega)]
    have hdr : L.drop (j + 1 + (prT t).length) = prR r ++ 41 :: Y := by rw [e1]; exact drop_on hdt
    rw [run_prR r L (j + 1 + (prT t).length) Y (cur ++ [t]) rest (k + cntT t) hl.2 hdr (by omega) (by omega)]
    rw [hct]
    congr 1
    · simp; omega
    · simp
    · omega
end
/-- The lines of a whole text. -/
theorem run_prL : ∀ (l : List T) (L : List UInt8) (j : Nat) (Y : List UInt8) (cur : List T) (k : Nat), soL l → L.drop j = prL l ++ Y → k + cntL l ≤ 65536 → depL l ≤ 32 → run L j [cur] k = run L (j + (prL l).length) [cur ++ l] (k + cntL l)
  | [], L, j, Y, cur, k, _, _, _, _ => by simp [prL, cntL]
  | t :: r, L, j, Y, cur, k, hl, hd, hk, hdp => by
    unfold prL at hd ⊢
    unfold soL at hl
    have hct : cntL (t :: r) = cntT t + cntL r := by simp [cntL]
    have hdt2 : depL [t] ≤ depL (t :: r) ∧ depL r ≤ depL (t :: r) := by cases t; simp only [depL]; omega
    have hd1 : L.drop j = prT t ++ 10 :: (prL r ++ Y) := by simpa using hd
    rw [run_prT t L j 10 (prL r ++ Y) cur [] k hl.1 hd1 (by decide) (by omega) (by simp; omega)]
    have hd2 := drop_on hd1
    rw [run_blank hd2 (.inr (by decide))]
    have hd3 : L.drop (j + (prT t).length + 1) = prL r ++ Y := drop_on (A := [10]) hd2
    rw [run_prL r L (j + (prT t).length + 1) Y (cur ++ [t]) (k + cntT t) hl.2 hd3 (by omega) (by omega)]
    rw [hct]
    congr 1
    · simp; omega
    · simp
    · omega
/-- What is printed is read as the same trees. -/
theorem run_printed (l : List T) (h : soL l) (hc : cntL l ≤ 65536) (hd : depL l ≤ 32) : run (prL l) 0 [[]] 0 = .ok l := by
  rw [run_prL l (prL l) 0 [] [] 0 h (by simp) (by omega) hd, Nat.zero_add, run_end]
  simp
end Go.Proofs.YtonlmennpbklgaaDoor
