/- Trees as text: plain; what is printed is read as the same trees; nothing of the program. -/
import Derived.Test.YtonlmennpbklgaaDoorSu
import Derived.Test.YtonlmennpbklgaaDoorSbe
namespace Go.Proofs.YtonlmennpbklgaaDoor
open Go.RowKit
set_option linter.unusedSimpArgs false
set_option linter.unusedVariables false

mutual
def prT : T → List UInt8
  | .node k s n ks => if k = 1 then s.data.toList else if k = 2 then Lib.itoa n else if k = 3 then 34 :: (s.data.toList ++ [34]) else 40 :: (prK ks ++ [41])
def prK : List T → List UInt8
  | [] => []
  | t :: r => prT t ++ prR r
def prR : List T → List UInt8
  | [] => []
  | t :: r => 32 :: (prT t ++ prR r)
end
def prL : List T → List UInt8
  | [] => []
  | t :: r => prT t ++ 10 :: prL r
def wordB (s : ByteArray) : Bool := match s.data.toList with
  | [] => false
  | c :: r => !nuB c && (c :: r).all inB
def textB (s : ByteArray) : Bool := s.data.toList.all txB
mutual
def soT : T → Prop
  | .node k s n ks => (k = 1 ∧ wordB s = true ∧ n = 0 ∧ ks = []) ∨ (k = 2 ∧ s = ⟨#[]⟩ ∧ okN n ∧ ks = []) ∨ (k = 3 ∧ textB s = true ∧ n = 0 ∧ ks = []) ∨ (k = 4 ∧ s = ⟨#[]⟩ ∧ n = 0 ∧ soL ks)
def soL : List T → Prop
  | [] => True
  | t :: r => soT t ∧ soL r
end
theorem ruN_stop {l : List UInt8} {c0 : UInt8} {Y : List UInt8} (h : l.all inB = true) (h0 : inB c0 = false) : ruN (l ++ c0 :: Y) = l.length := by
  induction l with
  | nil => show (if inB c0 then ruN Y + 1 else 0) = 0; rw [if_neg (by simp [h0])]
  | cons c r ih =>
    rw [List.all_cons, Bool.and_eq_true] at h
    show (if inB c then ruN (r ++ c0 :: Y) + 1 else 0) = _
    rw [if_pos h.1, ih h.2]; rfl
theorem textL_stop {l : List UInt8} {Y : List UInt8} (h : l.all txB = true) : ∀ m, textL (l ++ 34 :: Y) m = .closed (m + l.length) := by
  induction l with
  | nil => intro m; show (if (34 : UInt8).toNat = 10 then Q.unclosed else if (34 : UInt8).toNat = 34 then .closed m else _) = _; rfl
  | cons c r ih =>
    intro m
    rw [List.all_cons, Bool.and_eq_true] at h
    have hc := h.1
    unfold txB at hc
    simp at hc
    show (if c.toNat = 10 then Q.unclosed else if c.toNat = 34 then .closed m else if txB c then textL (r ++ 34 :: Y) (m + 1) else .wrong m) = _
    rw [if_neg (by omega), if_neg (by omega), if_pos h.1, ih h.2]
    simp; omega
theorem dec_all (u : Nat) : ∀ c ∈ Lib.decDigits u, 48 ≤ c.toNat ∧ c.toNat ≤ 57 := by
  induction u using Nat.strongRecOn with
  | ind u ih =>
    intro c hc
    rw [Lib.decDigits] at hc
    by_cases h : u < 10
    · rw [dif_pos h, List.mem_singleton] at hc
      subst hc
      rw [dig_nat u h]; omega
    · rw [dif_neg h, List.mem_append, List.mem_singleton] at hc
      rcases hc with hc | hc
      · exact ih (u / 10) (by omega) c hc
      · subst hc
        rw [dig_nat (u % 10) (by omega)]; omega
theorem inB_digit {c : UInt8} (h : 48 ≤ c.toNat ∧ c.toNat ≤ 57) : inB c = true ∧ nuB c = true := by
  unfold inB nuB; simp; omega
theorem itoa_shape (n : Int) : ∃ c r, Lib.itoa n = c :: r ∧ nuB c = true ∧ (Lib.itoa n).all inB = true := by
  unfold Lib.itoa
  split
  · refine ⟨_, _, rfl, by decide, ?_⟩
    rw [List.all_cons, Bool.and_eq_true]
    exact ⟨by decide, List.all_eq_true.2 fun c hc => (inB_digit (dec_all _ c hc)).1⟩
  · obtain ⟨c, r, h, h1, h2⟩ := first_digit n.toNat
    refine ⟨c, r, h, (inB_digit ⟨h1, h2⟩).2, List.all_eq_true.2 fun c hc => (inB_digit (dec_all _ c hc)).1⟩
theorem nb_of_in {c : UInt8} (h : inB c = true) : Nb c ∧ c.toNat ≠ 41 ∧ c.toNat ≠ 40 ∧ c.toNat ≠ 34 := by
  unfold inB at h
  simp at h
  exact ⟨⟨by omega, by omega⟩, by omega, by omega, by omega⟩
/-- What a tree that is no list is printed as. -/
theorem leaf_pr {k n : Int} {s : ByteArray} {ks : List T} (h : soT (.node k s n ks)) (h4 : k ≠ 4) : ks = [] ∧ ∃ c r, prT (.node k s n ks) = c :: r ∧ Nb c ∧ c.toNat ≠ 41 ∧ c.toNat ≠ 40 ∧ ∀ (c0 : UInt8) (Y : List UInt8), inB c0 = false → leaf c (r ++ c0 :: Y) = .inr (.node k s n ks, (prT (.node k s n ks)).length) := by
  unfold soT at h
  rcases h with ⟨rfl, hw, rfl, rfl⟩ | ⟨rfl, rfl, hn, rfl⟩ | ⟨rfl, ht, rfl, rfl⟩ | ⟨rfl, _⟩
  · refine ⟨rfl, ?_⟩
    unfold wordB at hw
    have e : prT (.node 1 s 0 []) = s.data.toList := by unfold prT; rw [if_pos rfl]
    rw [e]
    rcases hl : s.data.toList with _ | ⟨c, r⟩
    · rw [hl] at hw; simp at hw
    · rw [hl] at hw
      rw [Bool.and_eq_true] at hw
      obtain ⟨hnu, hall⟩ := hw
      have hin : inB c = true := by rw [List.all_cons, Bool.and_eq_true] at hall; exact hall.1
      have hnb := nb_of_in hin
      refine ⟨c, r, rfl, hnb.1, hnb.2.1, hnb.2.2.1, fun c0 Y h0 => ?_⟩
      have hr : ruN (c :: (r ++ c0 :: Y)) = (c :: r).length := ruN_stop (l := c :: r) hall h0
      unfold leaf
      rw [if_neg hnb.2.2.2, if_pos hin, if_neg (by simpa using hnu), hr]
      have et : (c :: (r ++ c0 :: Y)).take (c :: r).length = c :: r := by
        have : c :: (r ++ c0 :: Y) = (c :: r) ++ c0 :: Y := rfl
        rw [this, List.take_left']; rfl
      rw [et, ← hl]
  · refine ⟨rfl, ?_⟩
    have e : prT (.node 2 ⟨#[]⟩ n []) = Lib.itoa n := by unfold prT; rw [if_neg (by decide), if_pos rfl]
    obtain ⟨c, r, hl, hnu, hall⟩ := itoa_shape n
    rw [e, hl]
    rw [hl] at hall
    have hin : inB c = true := by rw [List.all_cons, Bool.and_eq_true] at hall; exact hall.1
    have hnb := nb_of_in hin
    refine ⟨c, r, rfl, hnb.1, hnb.2.1, hnb.2.2.1, fun c0 Y h0 => ?_⟩
    have hr : ruN (c :: (r ++ c0 :: Y)) = (c :: r).length := ruN_stop (l := c :: r) hall h0
    have et : (c :: (r ++ c0 :: Y)).take (c :: r).length = c :: r := by
      have : c :: (r ++ c0 :: Y) = (c :: r) ++ c0 :: Y := rfl
      rw [this, List.take_left']; rfl
    unfold leaf
    rw [if_neg hnb.2.2.2, if_pos hin, if_pos hnu, hr, et, ← hl, numL_itoa hn]
  · refine ⟨rfl, 34, s.data.toList ++ [34], ?_, ⟨by decide, by decide⟩, by decide, by decide, fun c0 Y h0 => ?_⟩
    · unfold prT; rw [if_neg (by decide), if_neg (by decide), if_pos rfl]
    · unfold leaf
      rw [if_pos (by decide)]
      have e1 : s.data.toList ++ [34] ++ c0 :: Y = s.data.toList ++ 34 :: (c0 :: Y) := by simp
      have ht' : s.data.toList.all txB = true := ht
      rw [e1, textL_stop ht']
      simp only [Nat.zero_add]
      rw [List.take_left' rfl]
      have e2 : (prT (.node 3 s 0 [])).length = s.data.toList.length + 2 := by
        unfold prT; rw [if_neg (by decide), if_neg (by decide), if_pos rfl]; simp
      rw [e2]
  · exact absurd rfl h4
end Go.Proofs.YtonlmennpbklgaaDoor
