/- Sums, plainly: which are normal; the value of a sum of sums. -/
import Derived.Test.YtbnaakognnkhdaaDoorNhd
namespace Go.Proofs.YtbnaakognnkhdaaDoor
open Go.RowKit
set_option linter.unusedSimpArgs false
set_option linter.unusedVariables false

theorem bl_irrefl : ∀ x : List UInt8, Op.bytesLess x x = false
  | [] => by simp [Op.bytesLess]
  | a :: x => by simp [Op.bytesLess, bl_irrefl x]
theorem bl_trans : ∀ x y z : List UInt8, Op.bytesLess x y = true → Op.bytesLess y z = true → Op.bytesLess x z = true
  | _, [], z, h, _ => by simp [Op.bytesLess] at h
  | _, _ :: _, [], _, h => by simp [Op.bytesLess] at h
  | [], b :: y, c :: z, _, _ => by simp [Op.bytesLess]
  | a :: x, b :: y, c :: z, h, k => by
    simp only [Op.bytesLess, Bool.or_eq_true, Bool.and_eq_true, decide_eq_true_eq, beq_iff_eq, UInt8.lt_iff_toNat_lt] at h k ⊢
    rcases h with h | ⟨rfl, h⟩
    · rcases k with k | ⟨rfl, k⟩
      · exact .inl (by omega)
      · exact .inl h
    · rcases k with k | ⟨rfl, k⟩
      · exact .inl k
      · exact .inr ⟨rfl, bl_trans x y z h k⟩
theorem bl_tri : ∀ x y : List UInt8, Op.bytesLess x y = false → Op.bytesLess y x = false → x = y
  | [], [], _, _ => rfl
  | [], b :: y, h, _ => by simp [Op.bytesLess] at h
  | a :: x, [], _, h => by simp [Op.bytesLess] at h
  | a :: x, b :: y, h, k => by
    simp only [Op.bytesLess, Bool.or_eq_false_iff, Bool.and_eq_false_iff, decide_eq_false_iff_not, beq_eq_false_iff_ne, UInt8.lt_iff_toNat_lt] at h k
    have e : a = b := UInt8.toNat_inj.1 (by omega)
    subst e
    have h2 : Op.bytesLess x y = false := by rcases h.2 with h | h; exact absurd rfl h; exact h
    have k2 : Op.bytesLess y x = false := by rcases k.2 with h | h; exact absurd rfl h; exact h
    rw [bl_tri x y h2 k2]
theorem lt_trans' {a b c : ByteArray} (h : ltB a b = true) (k : ltB b c = true) : ltB a c = true := bl_trans _ _ _ h k
theorem lt_tri {a b : ByteArray} (h : ltB a b = false) (k : ltB b a = false) : a = b := bytes_ext (bl_tri _ _ h k)
theorem lt_irrefl' (a : ByteArray) : ltB a a = false := bl_irrefl _
/-- Names, none counted 0 times, rising. -/
def ascP : List (ByteArray × Int) → Prop
  | [] => True
  | x :: r => nameB x.1 = true ∧ x.2 ≠ 0 ∧ (∀ y ∈ r, ltB x.1 y.1 = true) ∧ ascP r
section
variable {k : Int}
theorem push_mem {s : ByteArray} {n : Int} {l : List (ByteArray × Int)} {y : ByteArray × Int} (h : y ∈ pushP s n l) : y = (s, n) ∨ y ∈ l := by
  unfold pushP at h
  split at h
  · exact .inr h
  · exact List.mem_cons.1 h
theorem push_asc {s : ByteArray} {n : Int} {l : List (ByteArray × Int)} (h : ascP l) (hs : nameB s = true) (hl : ∀ y ∈ l, ltB s y.1 = true) : ascP (pushP s n l) := by
  unfold pushP
  split
  · exact h
  · next hn => exact ⟨hs, hn, hl, h⟩
/-- Each name of a sum of two is a name of one of them. -/
theorem merge_mem : ∀ (N : Nat) (l m : List (ByteArray × Int)), l.length + m.length ≤ N → ∀ y ∈ mergeP k l m, (∃ x ∈ l, x.1 = y.1) ∨ ∃ x ∈ m, x.1 = y.1 := by
  intro N
  induction N with
  | zero =>
    intro l m h y hy
    have e1 : l = [] := List.eq_nil_of_length_eq_zero (by omega)
    have e2 : m = [] := List.eq_nil_of_length_eq_zero (by omega)
    subst e1 e2
    rw [mergeP] at hy
    cases hy
  | succ N ih =>
    intro l m h y hy
    match l, m with
    | [], [] => rw [mergeP] at hy; cases hy
    | x :: r, [] =>
      rw [mergeP] at hy
      rcases push_mem hy with rfl | hy
      · exact .inl ⟨x, List.mem_cons_self, rfl⟩
      · rcases ih r [] (by simp at h ⊢; omega) y hy with ⟨z, hz, e⟩ | ⟨z, hz, e⟩
        · exact .inl ⟨z, List.mem_cons_of_mem _ hz, e⟩
        · exact .inr ⟨z, hz, e⟩
    | [], x :: s =>
      rw [mergeP] at hy
      rcases push_mem hy with rfl | hy
      · exact .inr ⟨x, List.mem_cons_self, rfl⟩
      · rcases ih [] s (by simp at h ⊢; omega) y hy with ⟨z, hz, e⟩ | ⟨z, hz, e⟩
        · exact .inl ⟨z, hz, e⟩
        · exact .inr ⟨z, List.mem_cons_of_mem _ hz, e⟩
    | x :: r, x' :: s =>
      rw [mergeP] at hy
      split at hy
      · rcases push_mem hy with rfl | hy
        · exact .inl ⟨x, List.mem_cons_self, rfl⟩
        · rcases ih r (x' :: s) (by simp at h ⊢; omega) y hy with ⟨z, hz, e⟩ | ⟨z, hz, e⟩
          · exact .inl ⟨z, List.mem_cons_of_mem _ hz, e⟩
          · exact .inr ⟨z, hz, e⟩
      · split at hy
        · rcases push_mem hy with rfl | hy
          · exact .inr ⟨x', List.mem_cons_self, rfl⟩
          · rcases ih (x :: r) s (by simp at h ⊢; omega) y hy with ⟨z, hz, e⟩ | ⟨z, hz, e⟩
            · exact .inl ⟨z, hz, e⟩
            · exact .inr ⟨z, List.mem_cons_of_mem _ hz, e⟩
        · rcases push_mem hy with rfl | hy
          · exact .inl ⟨x, List.mem_cons_self, rfl⟩
          · rcases ih r s (by simp at h ⊢; omega) y hy with ⟨z, hz, e⟩ | ⟨z, hz, e⟩
            · exact .inl ⟨z, List.mem_cons_of_mem _ hz, e⟩
            · exact .inr ⟨z, List.mem_cons_of_mem _ hz, e⟩
/-- A sum of two normal ones is rising. -/
theorem merge_asc : ∀ (N : Nat) (l m : List (ByteArray × Int)), l.length + m.length ≤ N → ascP l → ascP m → ascP (mergeP k l m) := by
  intro N
  induction N with
  | zero =>
    intro l m h _ _
    have e1 : l = [] := List.eq_nil_of_length_eq_zero (by omega)
    have e2 : m = [] := List.eq_nil_of_length_eq_zero (by omega)
    subst e1 e2
    rw [mergeP]
    trivial
  | succ N ih =>
    intro l m h hl hm
    match l, m with
    | [], [] => rw [mergeP]; trivial
    | x :: r, [] =>
      rw [mergeP]
      refine push_asc (ih r [] (by simp at h ⊢; omega) hl.2.2.2 hm) hl.1 fun y hy => ?_
      rcases merge_mem _ r [] (Nat.le_refl _) y hy with ⟨z, hz, e⟩ | ⟨z, hz, e⟩
      · rw [← e]; exact hl.2.2.1 z hz
      · cases hz
    | [], x :: s =>
      rw [mergeP]
      refine push_asc (ih [] s (by simp at h ⊢; omega) hl hm.2.2.2) hm.1 fun y hy => ?_
      rcases merge_mem _ [] s (Nat.le_refl _) y hy with ⟨z, hz, e⟩ | ⟨z, hz, e⟩
      · cases hz
      · rw [← e]; exact hm.2.2.1 z hz
    | x :: r, x' :: s =>
      rw [mergeP]
      split
      · next hlt =>
        refine push_asc (ih r (x' :: s) (by simp at h ⊢; omega) hl.2.2.2 hm) hl.1 fun y hy => ?_
        rcases merge_mem _ r (x' :: s) (Nat.le_refl _) y hy with ⟨z, hz, e⟩ | ⟨z, hz, e⟩
        · rw [← e]; exact hl.2.2.1 z hz
        · rw [← e]
          rcases List.mem_cons.1 hz with rfl | hz
          · exact hlt
          · exact lt_trans' hlt (hm.2.2.1 z hz)
      · next hn =>
        have hn' : ltB x.1 x'.1 = false := by simpa using hn
        split
        · next hlt =>
          refine push_asc (ih (x :: r) s (by simp at h ⊢; omega) hl hm.2.2.2) hm.1 fun y hy => ?_
          rcases merge_mem _ (x :: r) s (Nat.le_refl _) y hy with ⟨z, hz, e⟩ | ⟨z, hz, e⟩
          · rw [← e]
            rcases List.mem_cons.1 hz with rfl | hz
            · exact hlt
            · exact lt_trans' hlt (hl.2.2.1 z hz)
          · rw [← e]; exact hm.2.2.1 z hz
        · next hn2 =>
          have hn2' : ltB x'.1 x.1 = false := by simpa using hn2
          have he := lt_tri hn' hn2'
          refine push_asc (ih r s (by simp at h ⊢; omega) hl.2.2.2 hm.2.2.2) hl.1 fun y hy => ?_
          rcases merge_mem _ r s (Nat.le_refl _) y hy with ⟨z, hz, e⟩ | ⟨z, hz, e⟩
          · rw [← e]; exact hl.2.2.1 z hz
          · rw [← e, he]; exact hm.2.2.1 z hz
end
/-- Equal modulo 2^64. -/
def cg (a b : Int) : Prop := ∃ q : Int, a = b + 18446744073709551616 * q
theorem cg.refl (a : Int) : cg a a := ⟨0, by omega⟩
theorem cg.add {a b c d : Int} (h : cg a b) (k : cg c d) : cg (a + c) (b + d) := by
  obtain ⟨q, rfl⟩ := h
  obtain ⟨r, rfl⟩ := k
  exact ⟨q + r, by omega⟩
theorem cg.trans {a b c : Int} (h : cg a b) (k : cg b c) : cg a c := by
  obtain ⟨q, rfl⟩ := h
  obtain ⟨r, rfl⟩ := k
  exact ⟨q + r, by omega⟩
theorem cg.symm {a b : Int} (h : cg a b) : cg b a := by
  obtain ⟨q, rfl⟩ := h
  exact ⟨-q, by omega⟩
section
variable (names : List ByteArray) (vals : List Int)
end
end Go.Proofs.YtbnaakognnkhdaaDoor
