/- Numbers as digits: plain; nothing of the program. -/
import Derived.Test.YtcndmiolaheaeaaGreatDoorKSn
import Derived.Lib.ItoaNum
import Derived.Lib.AtoiAllCases
import Derived.Lib.AtoiTie
namespace Go.Proofs.YtcndmiolaheaeaaGreatDoor
open Go.RowKit
set_option linter.unusedSimpArgs false
set_option linter.unusedVariables false

theorem snoc_ind {α : Type} {P : List α → Prop} (h0 : P []) (h1 : ∀ l a, P l → P (l ++ [a])) (l : List α) : P l := by
  have h : ∀ r : List α, P r.reverse := by
    intro r
    induction r with
    | nil => exact h0
    | cons a r ih => rw [List.reverse_cons]; exact h1 _ _ ih
  have := h l.reverse
  rwa [List.reverse_reverse] at this
theorem digL_nil (a : Int) : digL a [] = some a := rfl
theorem digL_cons (a : Int) (c : UInt8) (r : List UInt8) : digL a (c :: r) = if 48 ≤ c.toNat ∧ c.toNat ≤ 57 then digL (a * 10 + ((c.toNat : Int) - 48)) r else none := rfl
theorem digL_snoc (l : List UInt8) (c : UInt8) : ∀ a : Int, digL a (l ++ [c]) = (digL a l).bind fun v => if 48 ≤ c.toNat ∧ c.toNat ≤ 57 then some (v * 10 + ((c.toNat : Int) - 48)) else none := by
  induction l with
  | nil => intro a; rw [List.nil_append, digL_cons, digL_nil, digL_nil]; rfl
  | cons d r ih =>
    intro a
    rw [List.cons_append, digL_cons, digL_cons]
    by_cases h : 48 ≤ d.toNat ∧ d.toNat ≤ 57
    · rw [if_pos h, if_pos h, ih]
    · rw [if_neg h, if_neg h]; rfl
theorem dig_nat (d : Nat) (h : d < 10) : (UInt8.ofNat (48 + d)).toNat = 48 + d := by
  rw [UInt8.toNat_ofNat']; omega
theorem digL_dec (u : Nat) : digL 0 (Lib.decDigits u) = some (u : Int) := by
  induction u using Nat.strongRecOn with
  | ind u ih =>
    rw [Lib.decDigits]
    by_cases h : u < 10
    · rw [dif_pos h, digL_cons, dig_nat u h, if_pos (by omega), digL_nil]; congr 1; omega
    · rw [dif_neg h, digL_snoc, ih (u / 10) (by omega)]
      simp only [Option.bind_some]
      rw [dig_nat (u % 10) (by omega), if_pos (by omega)]
      congr 1; omega
theorem dec_ne (u : Nat) : Lib.decDigits u ≠ [] := by
  rw [Lib.decDigits]; split <;> simp
/-- The first digit is no nought but in 0 itself. -/
theorem dec_head (u : Nat) (hu : 0 < u) : ∃ c r, Lib.decDigits u = c :: r ∧ c.toNat ≠ 48 := by
  induction u using Nat.strongRecOn with
  | ind u ih =>
    rw [Lib.decDigits]
    by_cases h : u < 10
    · rw [dif_pos h]; exact ⟨_, [], rfl, by rw [dig_nat u h]; omega⟩
    · rw [dif_neg h]
      obtain ⟨c, r, e, hc⟩ := ih (u / 10) (by omega) (by omega)
      exact ⟨c, r ++ [_], by rw [e]; rfl, hc⟩
theorem digL_some {l : List UInt8} {v : Int} (h : digL 0 l = some v) : 0 ≤ v := by
  induction l using snoc_ind generalizing v with
  | h0 => injection h with h; omega
  | h1 l c ih =>
    rw [digL_snoc] at h
    cases hl : digL 0 l with
    | none => rw [hl] at h; cases h
    | some a =>
      have := ih hl
      rw [hl] at h
      simp only [Option.bind_some] at h
      split at h
      · injection h with h; omega
      · cases h
theorem u8_eq {c : UInt8} {d : Nat} (h : c.toNat = 48 + d) (hd : d < 10) : c = UInt8.ofNat (48 + d) := by
  apply UInt8.toNat_inj.1; rw [dig_nat d hd]; exact h
/-- Digits without a nought ahead are those of their number. -/
theorem dec_of_digL {l : List UInt8} {v : Int} (h : digL 0 l = some v) (hne : l ≠ []) (hz : ∀ c r, l = c :: r → c.toNat = 48 → r = []) : Lib.decDigits v.toNat = l := by
  induction l using snoc_ind generalizing v with
  | h0 => exact absurd rfl hne
  | h1 l c ih =>
    rw [digL_snoc] at h
    cases hl : digL 0 l with
    | none => rw [hl] at h; cases h
    | some a =>
      have ha := digL_some hl
      rw [hl] at h
      simp only [Option.bind_some] at h
      split at h
      · next hc =>
        injection h with h
        have hcd : c = UInt8.ofNat (48 + (c.toNat - 48)) := u8_eq (by omega) (by omega)
        rcases l with _ | ⟨d, r⟩
        · rw [digL_nil] at hl
          injection hl with hl
          subst hl
          have e : v.toNat = c.toNat - 48 := by omega
          rw [e, Lib.decDigits, dif_pos (by omega), ← hcd]; rfl
        · have hd : d.toNat ≠ 48 := fun k => by
            have := hz d (r ++ [c]) rfl k
            simp at this
          have i := ih hl (by simp) (fun c' r' e k => by injection e with e1 e2; subst e1; exact absurd k hd)
          have hpos : 0 < a.toNat := by
            rcases Nat.eq_zero_or_pos a.toNat with k | k
            · rw [k, Lib.decDigits, dif_pos (by omega)] at i
              injection i with i1 i2
              exact absurd (by rw [← i1]; exact dig_nat 0 (by omega)) hd
            · exact k
          have e1 : v.toNat / 10 = a.toNat := by omega
          have e2 : v.toNat % 10 = c.toNat - 48 := by omega
          rw [Lib.decDigits, dif_neg (by omega), e1, e2, i, ← hcd]
      · cases h
theorem dec_len {u : Nat} (h : u < 1000000000000000000) : (Lib.decDigits u).length ≤ 18 := by
  rw [Lib.decDigits_length]
  rcases Nat.lt_or_ge 18 (Lib.nDigits u) with k | k
  · exfalso
    have : ∀ (m u : Nat), u < 10 ^ m → 1 ≤ m → Lib.nDigits u ≤ m := by
      intro m
      induction m with
      | zero => intro u _ h; omega
      | succ m ih =>
        intro u hu _
        by_cases hs : u < 10
        · rw [Lib.nDigits_small hs]; omega
        · rw [Lib.nDigits_big hs]
          have h1 : u / 10 < 10 ^ m := by rw [Nat.pow_succ] at hu; omega
          rcases Nat.eq_zero_or_pos m with h0 | h0
          · subst h0; simp at h1; omega
          · have := ih (u / 10) h1 h0; omega
    have := this 18 u (by simpa using h) (by omega)
    omega
  · exact k
def okN (n : Int) : Prop := -1000000000000000000 < n ∧ n < 1000000000000000000
theorem digL_lt {l : List UInt8} {v : Int} (h : digL 0 l = some v) : v < 10 ^ l.length := by
  induction l using snoc_ind generalizing v with
  | h0 => injection h with h; subst h; simp
  | h1 l c ih =>
    rw [digL_snoc] at h
    cases hl : digL 0 l with
    | none => rw [hl] at h; cases h
    | some a =>
      have := ih hl
      rw [hl] at h
      simp only [Option.bind_some] at h
      split at h
      · injection h with h
        rw [List.length_append, List.length_singleton, Int.pow_succ]
        omega
      · cases h
theorem magL_some {b : Bool} {d : List UInt8} {n : Int} (h : magL b d = some n) : ∃ v : Int, 0 ≤ v ∧ v < 1000000000000000000 ∧ d = Lib.decDigits v.toNat ∧ n = (if b then -v else v) ∧ (b = true → 0 < v) := by
  unfold magL at h
  rcases d with _ | ⟨c, r⟩
  · cases h
  · simp only at h
    split at h
    · cases h
    · next hc =>
      obtain ⟨v, hv, rfl⟩ := Option.map_eq_some_iff.1 h
      have h18 : (c :: r).length ≤ 18 := by omega
      have hz : ∀ c' r', c :: r = c' :: r' → c'.toNat = 48 → r' = [] := by
        intro c' r' e k
        injection e with e1 e2
        subst e1 e2
        rcases Decidable.em (r = []) with h0 | h0
        · exact h0
        · exact absurd (Or.inr ⟨k, Or.inr h0⟩) hc
      have hd := dec_of_digL hv (by simp) hz
      have hlt := digL_lt hv
      have hp : (10 : Int) ^ (c :: r).length ≤ 10 ^ 18 := by
        have := Nat.pow_le_pow_right (n := 10) (by omega) h18
        exact_mod_cast this
      have h0 := digL_some hv
      refine ⟨v, h0, ?_, hd.symm, rfl, fun hb => ?_⟩
      · have e : (10 : Int) ^ 18 = 1000000000000000000 := by decide
        omega
      · rcases Int.lt_or_le 0 v with k | k
        · exact k
        · exfalso
          have : v = 0 := by omega
          subst this
          rw [show (0 : Int).toNat = 0 from rfl, Lib.decDigits, dif_pos (by omega)] at hd
          injection hd with d1 d2
          exact hc (Or.inr ⟨by rw [← d1]; exact dig_nat 0 (by omega), Or.inl hb⟩)
theorem magL_dec {b : Bool} {u : Nat} (hu : u < 1000000000000000000) (hb : b = true → 0 < u) : magL b (Lib.decDigits u) = some (if b then -(u : Int) else (u : Int)) := by
  have hl := dec_len hu
  have hd := digL_dec u
  cases hc : Lib.decDigits u with
  | nil => exact absurd hc (dec_ne u)
  | cons c r =>
    rw [hc] at hl hd
    unfold magL
    simp only
    rw [if_neg, hd]
    · rfl
    · rintro (k | ⟨k, k2⟩)
      · omega
      · rcases Nat.eq_zero_or_pos u with h0 | h0
        · subst h0
          rw [Lib.decDigits, dif_pos (by omega)] at hc
          injection hc with c1 c2
          rcases k2 with k2 | k2
          · have := hb k2; omega
          · exact k2 c2.symm
        · obtain ⟨c', r', e, hne⟩ := dec_head u h0
          rw [hc] at e
          injection e with e1 e2
          subst e1
          exact hne k
theorem first_digit (u : Nat) : ∃ c r, Lib.decDigits u = c :: r ∧ 48 ≤ c.toNat ∧ c.toNat ≤ 57 := by
  have hd := digL_dec u
  cases hc : Lib.decDigits u with
  | nil => exact absurd hc (dec_ne u)
  | cons c r =>
    rw [hc, digL_cons] at hd
    refine ⟨c, r, rfl, ?_⟩
    split at hd
    · assumption
    · cases hd
theorem numL_itoa {n : Int} (h : okN n) : numL (Lib.itoa n) = some n := by
  obtain ⟨h1, h2⟩ := h
  unfold Lib.itoa
  by_cases hn : n < 0
  · rw [if_pos hn]
    unfold numL
    simp only
    rw [if_pos (by decide), magL_dec (by omega) (fun _ => by omega), if_pos rfl]
    congr 1; omega
  · rw [if_neg hn]
    obtain ⟨c, r, e, d1, d2⟩ := first_digit n.toNat
    have hm := magL_dec (b := false) (u := n.toNat) (by omega) (fun h => by cases h)
    rw [e] at hm ⊢
    unfold numL
    simp only
    rw [if_neg (by omega), hm, if_neg (by simp)]
    congr 1; omega
theorem numL_some {w : List UInt8} {n : Int} (h : numL w = some n) : w = Lib.itoa n ∧ okN n := by
  rcases w with _ | ⟨c, r⟩
  · cases h
  · unfold numL at h
    simp only at h
    unfold Lib.itoa okN
    split at h
    · next hc =>
      obtain ⟨v, v0, v1, e, hn, hb⟩ := magL_some h
      have := hb rfl
      rw [if_pos rfl] at hn
      have hc' : c = 45 := UInt8.toNat_inj.1 hc
      refine ⟨?_, by omega, by omega⟩
      rw [if_pos (by omega), hc', e]
      congr 2; omega
    · obtain ⟨v, v0, v1, e, hn, hb⟩ := magL_some h
      rw [if_neg (by simp)] at hn
      subst hn
      exact ⟨by rw [if_neg (by omega), e], by omega, by omega⟩
end Go.Proofs.YtcndmiolaheaeaaGreatDoor
