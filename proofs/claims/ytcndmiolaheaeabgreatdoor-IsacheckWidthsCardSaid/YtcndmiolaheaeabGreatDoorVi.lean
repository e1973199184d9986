/- Facts on widths; nothing of the program. -/
import Derived.Test.YtcndmiolaheaeabGreatDoorVa
namespace Go.Proofs.YtcndmiolaheaeabGreatDoor
open Go.RowKit
set_option linter.unusedSimpArgs false
set_option linter.unusedVariables false

theorem fileO_bd {E : Env} {a : Int} {f : Int × Int × Int} (h : fileO E a = some f) : 1 ≤ f.2.1 ∧ f.2.1 ≤ 64 := by
  unfold fileO at h
  split at h
  · split at h
    · split at h
      · rename_i hf
        injection h with h; subst h
        simp only [fileB, Bool.and_eq_true, decide_eq_true_eq] at hf
        omega
      · cases h
    · cases h
  · cases h
theorem regW_bd (E : Env) (a b : Int) : 0 ≤ regW E a b ∧ regW E a b ≤ 128 := by
  unfold regW
  split
  · omega
  · rename_i f h
    have := fileO_bd h
    split
    · omega
    · split <;> omega
theorem wideI_bd (x : Int) : 0 ≤ wideI x ∧ wideI x ≤ 128 := by unfold wideI; split <;> omega
theorem leafW_bd (E : Env) (op w a b : Int) : 0 ≤ leafW E op w a b ∧ leafW E op w a b ≤ 128 := by
  have h1 := regW_bd E a b
  have h2 := wideI_bd w
  unfold leafW
  repeat' split
  all_goals omega
theorem joinW_bd (op w a b x y z : Int) (hx : 0 ≤ x ∧ x ≤ 128) (hy : 0 ≤ y ∧ y ≤ 128) : 0 ≤ joinW op w a b x y z ∧ joinW op w a b x y z ≤ 128 := by
  have h2 := wideI_bd w
  have h3 := wideI_bd (x + y)
  unfold joinW sharedI
  repeat' split
  all_goals (try simp only [memB, Bool.or_eq_true, decide_eq_true_eq] at *)
  all_goals omega
mutual
theorem widT_bd (E : Env) : ∀ t : Tm, 0 ≤ widT E t ∧ widT E t ≤ 128
  | .node op w a b ks => by
    have h := widL_bd E ks
    unfold widT
    split
    · split
      · omega
      · rename_i ws hws
        have hb : ∀ k, 0 ≤ ws.getD k 0 ∧ ws.getD k 0 ≤ 128 := fun k => by
          rw [List.getD_eq_getElem?_getD]
          cases hk : ws[k]? with
          | none => simp
          | some x => exact h ws hws x (List.mem_of_getElem? hk)
        split
        · exact leafW_bd E op w a b
        · exact joinW_bd op w a b _ _ _ (hb 0) (hb 1)
    · omega
theorem widL_bd (E : Env) : ∀ (l : List Tm) (ws : List Int), widL E l = some ws → ∀ x ∈ ws, 0 ≤ x ∧ x ≤ 128
  | [], ws, h, x, hx => by
    unfold widL at h; injection h with h; subst h; cases hx
  | t :: r, ws, h, x, hx => by
    unfold widL at h
    split at h
    · cases h
    · split at h
      · cases h
      · rename_i vs hvs
        injection h with h; subst h
        rcases List.mem_cons.1 hx with rfl | hx
        · exact widT_bd E t
        · exact widL_bd E r vs hvs x hx
end
theorem widL_snoc {E : Env} : ∀ {l : List Tm} {ws : List Int} (t : Tm), widL E l = some ws → widT E t ≠ 0 → widL E (l ++ [t]) = some (ws ++ [widT E t])
  | [], ws, t, h, ht => by
    unfold widL at h; injection h with h; subst h
    simp [widL, ht]
  | u :: r, ws, t, h, ht => by
    unfold widL at h
    split at h
    · cases h
    · rename_i hu
      split at h
      · cases h
      · rename_i vs hvs
        injection h with h; subst h
        simp only [List.cons_append]
        unfold widL
        rw [if_neg hu, widL_snoc t hvs ht]
theorem widL_len {E : Env} : ∀ {l : List Tm} {ws : List Int}, widL E l = some ws → ws.length = l.length
  | [], ws, h => by unfold widL at h; injection h with h; subst h; rfl
  | u :: r, ws, h => by
    unfold widL at h
    split at h
    · cases h
    · split at h
      · cases h
      · rename_i vs hvs
        injection h with h; subst h
        simp [widL_len hvs]
theorem widL_zero {E : Env} : ∀ {l : List Tm} {t : Tm}, t ∈ l → widT E t = 0 → widL E l = none
  | u :: r, t, h, ht => by
    unfold widL
    rcases List.mem_cons.1 h with rfl | h
    · rw [if_pos ht]
    · split
      · rfl
      · rw [widL_zero h ht]
theorem kids_zero {op : Int} (h : kidsI op = 0) : 20 ≤ op ∧ op ≤ 25 := by
  unfold kidsI at h
  repeat' split at h
  all_goals first | omega | (simp at h)
theorem kids_le {op : Int} : kidsI op ≤ 3 := by
  unfold kidsI
  repeat' split
  all_goals omega
end Go.Proofs.YtcndmiolaheaeabGreatDoor
