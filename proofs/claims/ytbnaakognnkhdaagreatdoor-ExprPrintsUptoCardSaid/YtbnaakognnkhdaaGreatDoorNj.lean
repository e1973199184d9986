/- Sums, plainly: which are normal; the value of a sum of sums. -/
import Derived.Test.YtbnaakognnkhdaaGreatDoorNh
namespace Go.Proofs.YtbnaakognnkhdaaGreatDoor
open Go.RowKit
set_option linter.unusedSimpArgs false
set_option linter.unusedVariables false

theorem bl_irrefl : ∀ x : List UInt8, Op.bytesLess x x = false
  | [] => by simp [Op.bytesLess]
  | a :: x => by simp [Op.bytesLess, bl_irrefl x]
theorem bl_trans : ∀ x y z : List UInt8, Op.bytesLess x y = true → Op.bytesLess y z = true → Op.bytesLess x z = true
  | _, [], z, h, _ => by simp [Op.bytesLess] at h
  | _, _ :: _, [], _, h => by simp [Op.bytesLess] at h
  | [], b :: y, c :: z, _, _ => by simp [Op.bytesLess]
  | a :: x, b :: y, c :: z, h, k => by
    simp only [Op.bytesLess, Bool.or_eq_true, Bool.and_eq_true, decide_eq_true_eq, beq_iff_eq, UInt8.lt_iff_toNat_lt] at h k ⊢
    rcases h with h | ⟨rfl, h⟩
    · rcases k with k | ⟨rfl, k⟩
      · exact .inl (by omega)
      · exact .inl h
    · rcases k with k | ⟨rfl, k⟩
      · exact .inl k
      · exact .inr ⟨rfl, bl_trans x y z h k⟩
theorem bl_tri : ∀ x y : List UInt8, Op.bytesLess x y = false → Op.bytesLess y x = false → x = y
  | [], [], _, _ => rfl
  | [], b :: y, h, _ => by simp [Op.bytesLess] at h
  | a :: x, [], _, h => by simp [Op.bytesLess] at h
  | a :: x, b :: y, h, k => by
    simp only [Op.bytesLess, Bool.or_eq_false_iff, Bool.and_eq_false_iff, decide_eq_false_iff_not, beq_eq_false_iff_ne, UInt8.lt_iff_toNat_lt] at h k
    have e : a = b := UInt8.toNat_inj.1 (by omega)
    subst e
    have h2 : Op.bytesLess x y = false := by rcases h.2 with h | h; exact absurd rfl h; exact h
    have k2 : Op.bytesLess y x = false := by rcases k.2 with h | h; exact absurd rfl h; exact h
    rw [bl_tri x y h2 k2]
theorem lt_trans' {a b c : ByteArray} (h : ltB a b = true) (k : ltB b c = true) : ltB a c = true := bl_trans _ _ _ h k
theorem lt_tri {a b : ByteArray} (h : ltB a b = false) (k : ltB b a = false) : a = b := bytes_ext (bl_tri _ _ h k)
theorem lt_irrefl' (a : ByteArray) : ltB a a = false := bl_irrefl _
/-- Names, none counted 0 times, rising. -/
def ascP : List (ByteArray × Int) → Prop
  | [] => True
  | x :: r => nameB x.1 = true ∧ x.2 ≠ 0 ∧ (∀ y ∈ r, ltB x.1 y.1 = true) ∧ ascP r
theorem ascP_of {P : List (ByteArray × Int)} : ∀ (m k : Nat), P.length - k = m → k ≤ P.length → normK (fsts P) (snds P) k = true → ascP (P.drop k) := by
  intro m
  induction m with
  | zero =>
    intro k h1 h2 _
    rw [List.drop_eq_nil_of_le (by omega)]
    trivial
  | succ m ih =>
    intro k h1 h2 hn
    have hk : k < P.length := by omega
    have hka : k < (fsts P).length := by simpa [fsts] using hk
    have hkb : k < (snds P).length := by simpa [snds] using hk
    rw [normK_at hka hkb] at hn
    simp only [Bool.and_eq_true, decide_eq_true_eq] at hn
    obtain ⟨⟨⟨n1, n2⟩, _⟩, n4⟩ := hn
    have hr := ih (k + 1) (by omega) (by omega) n4
    rw [List.drop_eq_getElem_cons hk]
    refine ⟨by simpa [fsts] using n1, by simpa [snds] using n2, ?_, hr⟩
    by_cases hl : k + 1 < P.length
    · have hla : k + 1 < (fsts P).length := by simpa [fsts] using hl
      have hlb : k + 1 < (snds P).length := by simpa [snds] using hl
      rw [normK_at hla hlb] at n4
      simp only [Bool.and_eq_true, Bool.or_eq_true, decide_eq_true_eq] at n4
      have n5 : ltB P[k].1 P[k + 1].1 = true := by
        rcases n4.1.2 with h | h
        · omega
        · have e : (fsts P).getD (k + 1 - 1) ⟨#[]⟩ = P[k].1 := by simp [fsts, List.getD, List.getElem?_eq_getElem hk]
          rw [e] at h
          simpa [fsts] using h
      intro y hy
      rw [List.drop_eq_getElem_cons hl] at hr hy
      rcases List.mem_cons.1 hy with rfl | hy
      · exact n5
      · exact lt_trans' n5 (hr.2.2.1 y hy)
    · intro y hy
      rw [List.drop_eq_nil_of_le (by omega)] at hy
      cases hy
theorem ascP_get : ∀ {P : List (ByteArray × Int)}, ascP P → (∀ (i : Nat) (h : i < P.length), nameB P[i].1 = true ∧ P[i].2 ≠ 0) ∧ ∀ (i j : Nat) (hj : j < P.length) (h : i < j), ltB (P[i]'(by omega)).1 P[j].1 = true
  | [], _ => ⟨fun i h => absurd h (by simp), fun i j hj => absurd hj (by simp)⟩
  | x :: r, h => by
    obtain ⟨h1, h2, h3, h4⟩ := h
    obtain ⟨k1, k2⟩ := ascP_get h4
    refine ⟨fun i hi => ?_, fun i j hj hij => ?_⟩
    · cases i with
      | zero => exact ⟨h1, h2⟩
      | succ i => exact k1 i (by simpa using hi)
    · cases j with
      | zero => omega
      | succ j =>
        cases i with
        | zero => exact h3 _ (List.getElem_mem _)
        | succ i => exact k2 i j (by simpa using hj) (by omega)
theorem normK_of {P : List (ByteArray × Int)} (h : ascP P) : ∀ (m k : Nat), P.length - k = m → k ≤ P.length → normK (fsts P) (snds P) k = true := by
  obtain ⟨h1, h2⟩ := ascP_get h
  intro m
  induction m with
  | zero =>
    intro k hm hk
    have e : k = (fsts P).length := by simp [fsts]; omega
    rw [e, normK_end]
  | succ m ih =>
    intro k hm hk
    have hl : k < P.length := by omega
    have hka : k < (fsts P).length := by simpa [fsts] using hl
    have hkb : k < (snds P).length := by simpa [snds] using hl
    rw [normK_at hka hkb, ih (k + 1) (by omega) (by omega)]
    have e1 : (fsts P)[k] = P[k].1 := by simp [fsts]
    have e2 : (snds P)[k] = P[k].2 := by simp [snds]
    rw [e1, e2, (h1 k hl).1]
    simp only [(h1 k hl).2, ne_eq, not_false_eq_true, decide_true, Bool.and_true, Bool.true_and, Bool.or_eq_true, decide_eq_true_eq]
    by_cases h0 : k = 0
    · exact .inl h0
    · have hk1 : k - 1 < P.length := by omega
      have e3 : (fsts P).getD (k - 1) ⟨#[]⟩ = P[k - 1].1 := by simp [fsts, List.getD, List.getElem?_eq_getElem hk1]
      rw [e3]
      exact .inr (h2 (k - 1) k hl (by omega))
theorem norm_asc {a : Ln} (h : a.norm = true) : ascP a.P := by
  have h1 := norm_fsts h
  have h2 := norm_snds h
  unfold Ln.norm normB at h
  simp only [Bool.and_eq_true] at h
  have := h.2
  rw [← h1, ← h2] at this
  simpa using ascP_of (P := a.P) _ 0 rfl (Nat.zero_le _) this
theorem asc_norm {P : List (ByteArray × Int)} (off : Int) (h : ascP P) (h16 : P.length ≤ 16) : (ofP P off).norm = true := by
  unfold Ln.norm normB ofP
  simp only [Bool.and_eq_true, decide_eq_true_eq]
  exact ⟨⟨by simp [fsts, snds], by simpa [fsts] using h16⟩, normK_of h _ 0 rfl (Nat.zero_le _)⟩
theorem P_ofP (P : List (ByteArray × Int)) (off : Int) : (ofP P off).P = P := by
  unfold Ln.P ofP fsts snds
  induction P with
  | nil => rfl
  | cons x r ih => simp only [List.map_cons, List.zip_cons_cons] at ih ⊢; rw [ih]
section
variable {k : Int}
theorem push_mem {s : ByteArray} {n : Int} {l : List (ByteArray × Int)} {y : ByteArray × Int} (h : y ∈ pushP s n l) : y = (s, n) ∨ y ∈ l := by
  unfold pushP at h
  split at h
  · exact .inr h
  · exact List.mem_cons.1 h
theorem push_asc {s : ByteArray} {n : Int} {l : List (ByteArray × Int)} (h : ascP l) (hs : nameB s = true) (hl : ∀ y ∈ l, ltB s y.1 = true) : ascP (pushP s n l) := by
  unfold pushP
  split
  · exact h
  · next hn => exact ⟨hs, hn, hl, h⟩
/-- Each name of a sum of two is a name of one of them. -/
theorem merge_mem : ∀ (N : Nat) (l m : List (ByteArray × Int)), l.length + m.length ≤ N → ∀ y ∈ mergeP k l m, (∃ x ∈ l, x.1 = y.1) ∨ ∃ x ∈ m, x.1 = y.1 := by
  intro N
  induction N with
  | zero =>
    intro l m h y hy
    have e1 : l = [] := List.eq_nil_of_length_eq_zero (by omega)
    have e2 : m = [] := List.eq_nil_of_length_eq_zero (by omega)
    subst e1 e2
    rw [mergeP] at hy
    cases hy
  | succ N ih =>
    intro l m h y hy
    match l, m with
    | [], [] => rw [mergeP] at hy; cases hy
    | x :: r, [] =>
      rw [mergeP] at hy
      rcases push_mem hy with rfl | hy
      · exact .inl ⟨x, List.mem_cons_self, rfl⟩
      · rcases ih r [] (by simp at h ⊢; omega) y hy with ⟨z, hz, e⟩ | ⟨z, hz, e⟩
        · exact .inl ⟨z, List.mem_cons_of_mem _ hz, e⟩
        · exact .inr ⟨z, hz, e⟩
    | [], x :: s =>
      rw [mergeP] at hy
      rcases push_mem hy with rfl | hy
      · exact .inr ⟨x, List.mem_cons_self, rfl⟩
      · rcases ih [] s (by simp at h ⊢; omega) y hy with ⟨z, hz, e⟩ | ⟨z, hz, e⟩
        · exact .inl ⟨z, hz, e⟩
        · exact .inr ⟨z, List.mem_cons_of_mem _ hz, e⟩
    | x :: r, x' :: s =>
      rw [mergeP] at hy
      split at hy
      · rcases push_mem hy with rfl | hy
        · exact .inl ⟨x, List.mem_cons_self, rfl⟩
        · rcases ih r (x' :: s) (by simp at h ⊢; omega) y hy with ⟨z, hz, e⟩ | ⟨z, hz, e⟩
          · exact .inl ⟨z, List.mem_cons_of_mem _ hz, e⟩
          · exact .inr ⟨z, hz, e⟩
      · split at hy
        · rcases push_mem hy with rfl | hy
          · exact .inr ⟨x', List.mem_cons_self, rfl⟩
          · rcases ih (x :: r) s (by simp at h ⊢; omega) y hy with ⟨z, hz, e⟩ | ⟨z, hz, e⟩
            · exact .inl ⟨z, hz, e⟩
            · exact .inr ⟨z, List.mem_cons_of_mem _ hz, e⟩
        · rcases push_mem hy with rfl | hy
          · exact .inl ⟨x, List.mem_cons_self, rfl⟩
          · rcases ih r s (by simp at h ⊢; omega) y hy with ⟨z, hz, e⟩ | ⟨z, hz, e⟩
            · exact .inl ⟨z, List.mem_cons_of_mem _ hz, e⟩
            · exact .inr ⟨z, List.mem_cons_of_mem _ hz, e⟩
/-- A sum of two normal ones is rising. -/
theorem merge_asc : ∀ (N : Nat) (l m : List (ByteArray × Int)), l.length + m.length ≤ N → ascP l → ascP m → ascP (mergeP k l m) := by
  intro N
  induction N with
  | zero =>
    intro l m h _ _
    have e1 : l = [] := List.eq_nil_of_length_eq_zero (by omega)
    have e2 : m = [] := List.eq_nil_of_length_eq_zero (by omega)
    subst e1 e2
    rw [mergeP]
    trivial
  | succ N ih =>
    intro l m h hl hm
    match l, m with
    | [], [] => rw [mergeP]; trivial
    | x :: r, [] =>
      rw [mergeP]
      refine push_asc (ih r [] (by simp at h ⊢; omega) hl.2.2.2 hm) hl.1 fun y hy => ?_
      rcases merge_mem _ r [] (Nat.le_refl _) y hy with ⟨z, hz, e⟩ | ⟨z, hz, e⟩
      · rw [← e]; exact hl.2.2.1 z hz
      · cases hz
    | [], x :: s =>
      rw [mergeP]
      refine push_asc (ih [] s (by simp at h ⊢; omega) hl hm.2.2.2) hm.1 fun y hy => ?_
      rcases merge_mem _ [] s (Nat.le_refl _) y hy with ⟨z, hz, e⟩ | ⟨z, hz, e⟩
      · cases hz
      · rw [← e]; exact hm.2.2.1 z hz
    | x :: r, x' :: s =>
      rw [mergeP]
      split
      · next hlt =>
        refine push_asc (ih r (x' :: s) (by simp at h ⊢; omega) hl.2.2.2 hm) hl.1 fun y hy => ?_
        rcases merge_mem _ r (x' :: s) (Nat.le_refl _) y hy with ⟨z, hz, e⟩ | ⟨z, hz, e⟩
        · rw [← e]; exact hl.2.2.1 z hz
        · rw [← e]
          rcases List.mem_cons.1 hz with rfl | hz
          · exact hlt
          · exact lt_trans' hlt (hm.2.2.1 z hz)
      · next hn =>
        have hn' : ltB x.1 x'.1 = false := by simpa using hn
        split
        · next hlt =>
          refine push_asc (ih (x :: r) s (by simp at h ⊢; omega) hl hm.2.2.2) hm.1 fun y hy => ?_
          rcases merge_mem _ (x :: r) s (Nat.le_refl _) y hy with ⟨z, hz, e⟩ | ⟨z, hz, e⟩
          · rw [← e]
            rcases List.mem_cons.1 hz with rfl | hz
            · exact hlt
            · exact lt_trans' hlt (hl.2.2.1 z hz)
          · rw [← e]; exact hm.2.2.1 z hz
        · next hn2 =>
          have hn2' : ltB x'.1 x.1 = false := by simpa using hn2
          have he := lt_tri hn' hn2'
          refine push_asc (ih r s (by simp at h ⊢; omega) hl.2.2.2 hm.2.2.2) hl.1 fun y hy => ?_
          rcases merge_mem _ r s (Nat.le_refl _) y hy with ⟨z, hz, e⟩ | ⟨z, hz, e⟩
          · rw [← e]; exact hl.2.2.1 z hz
          · rw [← e, he]; exact hm.2.2.1 z hz
end
theorem plus_norm {a b : Ln} {k : Int} (ha : a.norm = true) (hb : b.norm = true) (h : (plusL a b k).ss.length ≤ 16) : (plusL a b k).norm = true :=
  asc_norm _ (merge_asc _ _ _ (Nat.le_refl _) (norm_asc ha) (norm_asc hb)) (by simpa [plusL, ofP, fsts] using h)
/-- Equal modulo 2^64. -/
def cg (a b : Int) : Prop := ∃ q : Int, a = b + 18446744073709551616 * q
theorem cg.refl (a : Int) : cg a a := ⟨0, by omega⟩
theorem cg.wrap {a b : Int} (h : cg a b) : wrap64 a = wrap64 b := by
  obtain ⟨q, rfl⟩ := h
  unfold wrap64; omega
theorem cg_wrap (a : Int) : cg (wrap64 a) a := ⟨-((a + 9223372036854775808) / 18446744073709551616), by unfold wrap64; omega⟩
theorem cg.add {a b c d : Int} (h : cg a b) (k : cg c d) : cg (a + c) (b + d) := by
  obtain ⟨q, rfl⟩ := h
  obtain ⟨r, rfl⟩ := k
  exact ⟨q + r, by omega⟩
theorem cg.mul {a b : Int} (h : cg a b) (v : Int) : cg (a * v) (b * v) := by
  obtain ⟨q, rfl⟩ := h
  exact ⟨q * v, by rw [Int.add_mul, Int.mul_assoc]⟩
theorem cg.mull {a b : Int} (v : Int) (h : cg a b) : cg (v * a) (v * b) := by
  rw [Int.mul_comm v a, Int.mul_comm v b]; exact h.mul v
theorem cg.trans {a b c : Int} (h : cg a b) (k : cg b c) : cg a c := by
  obtain ⟨q, rfl⟩ := h
  obtain ⟨r, rfl⟩ := k
  exact ⟨q + r, by omega⟩
theorem cg.symm {a b : Int} (h : cg a b) : cg b a := by
  obtain ⟨q, rfl⟩ := h
  exact ⟨-q, by omega⟩
section
variable (names : List ByteArray) (vals : List Int)
/-- The value of a name. -/
def valO (s : ByteArray) : Option Int := if fndK names s 0 < 0 then none else vals[(fndK names s 0).toNat]?
/-- The sum of the symbols' values, as it is. -/
def sumO : List (ByteArray × Int) → Option Int
  | [] => some 0
  | x :: r => match valO names vals x.1, sumO r with
    | some v, some z => some (x.2 * v + z)
    | _, _ => none
theorem sum_cons {x : ByteArray × Int} {r : List (ByteArray × Int)} {z : Int} (h : sumO names vals (x :: r) = some z) : ∃ v z', valO names vals x.1 = some v ∧ sumO names vals r = some z' ∧ z = x.2 * v + z' := by
  unfold sumO at h
  split at h
  · next v z' h1 h2 => exact ⟨v, z', h1, h2, by injection h with h; exact h.symm⟩
  · cases h
theorem cons_sum {x : ByteArray × Int} {r : List (ByteArray × Int)} {v z : Int} (h1 : valO names vals x.1 = some v) (h2 : sumO names vals r = some z) : sumO names vals (x :: r) = some (x.2 * v + z) := by
  simp [sumO, h1, h2]
theorem push_sum {s : ByteArray} {n : Int} {l : List (ByteArray × Int)} {v z : Int} (h1 : valO names vals s = some v) (h2 : sumO names vals l = some z) : sumO names vals (pushP s n l) = some (n * v + z) := by
  unfold pushP
  split
  · next h => subst h; rw [h2]; simp
  · exact cons_sum names vals h1 h2
/-- The value of a sum of two, the second one k times. -/
theorem merge_sum (k : Int) : ∀ (N : Nat) (l m : List (ByteArray × Int)) (y z : Int), l.length + m.length ≤ N → sumO names vals l = some y → sumO names vals m = some z → ∃ u, sumO names vals (mergeP k l m) = some u ∧ cg u (y + k * z) := by
  intro N
  induction N with
  | zero =>
    intro l m y z h hy hz
    have e1 : l = [] := List.eq_nil_of_length_eq_zero (by omega)
    have e2 : m = [] := List.eq_nil_of_length_eq_zero (by omega)
    subst e1 e2
    simp only [sumO, Option.some.injEq] at hy hz
    subst hy hz
    rw [mergeP]
    exact ⟨0, rfl, by simpa using cg.refl 0⟩
  | succ N ih =>
    intro l m y z h hy hz
    match l, m with
    | [], [] =>
      simp only [sumO, Option.some.injEq] at hy hz
      subst hy hz
      rw [mergeP]
      exact ⟨0, rfl, by simpa using cg.refl 0⟩
    | x :: r, [] =>
      rw [mergeP]
      obtain ⟨v, y', h1, h2, rfl⟩ := sum_cons names vals hy
      obtain ⟨u, hu, hc⟩ := ih r [] y' z (by simp at h ⊢; omega) h2 hz
      refine ⟨_, push_sum names vals h1 hu, ?_⟩
      have := (cg.refl (x.2 * v)).add hc
      rw [Int.add_assoc]; exact this
    | [], x :: s =>
      rw [mergeP]
      obtain ⟨v, z', h1, h2, rfl⟩ := sum_cons names vals hz
      obtain ⟨u, hu, hc⟩ := ih [] s y z' (by simp at h ⊢; omega) hy h2
      refine ⟨_, push_sum names vals h1 hu, ?_⟩
      have h3 := ((cg_wrap (k * x.2)).mul v).add hc
      have e : y + k * (x.2 * v + z') = k * x.2 * v + (y + k * z') := by rw [Int.mul_add, Int.mul_assoc]; omega
      rw [e]; exact h3
    | x :: r, x' :: s =>
      rw [mergeP]
      obtain ⟨v, y', h1, h2, rfl⟩ := sum_cons names vals hy
      obtain ⟨v', z', k1, k2, rfl⟩ := sum_cons names vals hz
      split
      · obtain ⟨u, hu, hc⟩ := ih r (x' :: s) y' _ (by simp at h ⊢; omega) h2 hz
        refine ⟨_, push_sum names vals h1 hu, ?_⟩
        have := (cg.refl (x.2 * v)).add hc
        rw [Int.add_assoc]; exact this
      · next hn =>
        split
        · obtain ⟨u, hu, hc⟩ := ih (x :: r) s _ z' (by simp at h ⊢; omega) hy k2
          refine ⟨_, push_sum names vals k1 hu, ?_⟩
          have h3 := ((cg_wrap (k * x'.2)).mul v').add hc
          have e : x.2 * v + y' + k * (x'.2 * v' + z') = k * x'.2 * v' + (x.2 * v + y' + k * z') := by rw [Int.mul_add, Int.mul_assoc]; omega
          rw [e]; exact h3
        · next hn2 =>
          have he := lt_tri (by simpa using hn) (by simpa using hn2)
          have hv : v' = v := by rw [he] at h1; rw [h1] at k1; injection k1 with k1; exact k1.symm
          subst hv
          obtain ⟨u, hu, hc⟩ := ih r s y' z' (by simp at h ⊢; omega) h2 k2
          refine ⟨_, push_sum names vals h1 hu, ?_⟩
          have h3 := (((cg_wrap (x.2 + mul64 k x'.2)).trans ((cg.refl x.2).add (cg_wrap (k * x'.2)))).mul v').add hc
          have e : x.2 * v' + y' + k * (x'.2 * v' + z') = (x.2 + k * x'.2) * v' + (y' + k * z') := by rw [Int.mul_add, Int.add_mul, Int.mul_assoc]; omega
          rw [e]; exact h3
theorem evalK_sum {P : List (ByteArray × Int)} : ∀ (m i : Nat) (v : Int), P.length - i = m → i ≤ P.length → I64 v → evalK (fsts P) (snds P) names vals i v = match sumO names vals (P.drop i) with | some z => (wrap64 (v + z), true) | none => (0, false) := by
  intro m
  induction m with
  | zero =>
    intro i v hm hi hv
    have e : i = (fsts P).length := by simp [fsts]; omega
    have e2 : P.drop i = [] := List.drop_eq_nil_of_le (by omega)
    rw [e2, e, evalK_end]
    simp only [sumO, Int.add_zero]
    unfold I64 at hv
    rw [show wrap64 v = v by unfold wrap64; omega]
  | succ m ih =>
    intro i v hm hi hv
    have hl : i < P.length := by omega
    have hka : i < (fsts P).length := by simpa [fsts] using hl
    have hkb : i < (snds P).length := by simpa [snds] using hl
    have e1 : (fsts P)[i] = P[i].1 := by simp [fsts]
    have e2 : (snds P)[i] = P[i].2 := by simp [snds]
    rw [List.drop_eq_getElem_cons hl]
    rcases fndK_range names (fsts P)[i] 0 with hf | ⟨f, hfl, hf⟩
    · rw [evalK_none hka hf]
      rw [e1] at hf
      have : valO names vals P[i].1 = none := by unfold valO; rw [hf]; rfl
      simp [sumO, this]
    · by_cases hq : f < vals.length
      · rw [evalK_some hka hkb hf hq, ih (i + 1) _ (by omega) (by omega) (wrap64_i64 _)]
        rw [e1] at hf
        have hv2 : valO names vals P[i].1 = some vals[f] := by
          unfold valO
          rw [hf, if_neg (by omega), Int.toNat_natCast, List.getElem?_eq_getElem hq]
        cases hs : sumO names vals (P.drop (i + 1)) with
        | none => simp [sumO, hv2, hs]
        | some z =>
          simp only [sumO, hv2, hs]
          rw [e2]
          have h1 : cg (wrap64 (v + wrap64 (P[i].2 * vals[f])) + z) (v + P[i].2 * vals[f] + z) := ((cg_wrap _).trans ((cg.refl v).add (cg_wrap _))).add (cg.refl z)
          rw [h1.wrap, Int.add_assoc]
      · rw [evalK_far hka hf (by omega)]
        rw [e1] at hf
        have hv2 : valO names vals P[i].1 = none := by
          unfold valO
          rw [hf, if_neg (by omega), Int.toNat_natCast, List.getElem?_eq_none (by omega)]
        simp [sumO, hv2]
/-- The value of a sum. -/
def evalN (a : Ln) : Int × Bool := evalL a.ss a.ts a.off names vals
theorem eval_true {a : Ln} (ha : a.Sm) (h : (evalN names vals a).2 = true) : a.norm = true ∧ ∃ z, sumO names vals a.P = some z ∧ (evalN names vals a).1 = wrap64 (a.off + z) := by
  unfold evalN evalL at h ⊢
  split at h
  · next hn =>
    have hn' : a.norm = true := hn
    rw [if_pos hn]
    have := evalK_sum names vals (P := a.P) _ 0 a.off rfl (Nat.zero_le _) ha.2.2
    rw [norm_fsts hn', norm_snds hn', List.drop_zero] at this
    rw [this] at h ⊢
    cases hs : sumO names vals a.P with
    | none => rw [hs] at h; cases h
    | some z => exact ⟨hn', z, rfl, rfl⟩
  · cases h
theorem eval_of {a : Ln} (ha : a.Sm) (hn : a.norm = true) {z : Int} (hz : sumO names vals a.P = some z) : evalN names vals a = (wrap64 (a.off + z), true) := by
  unfold evalN evalL
  rw [if_pos (show normB a.ss a.ts = true from hn)]
  have := evalK_sum names vals (P := a.P) _ 0 a.off rfl (Nat.zero_le _) ha.2.2
  rw [norm_fsts hn, norm_snds hn, List.drop_zero, hz] at this
  exact this
/-- The value of a sum is the sum of the values. -/
theorem eval_plus {a b : Ln} {k : Int} (ha : a.Sm) (hb : b.Sm) (h1 : (evalN names vals a).2 = true) (h2 : (evalN names vals b).2 = true) (h16 : (plusL a b k).ss.length ≤ 16) :
    evalN names vals (plusL a b k) = (wrap64 ((evalN names vals a).1 + k * (evalN names vals b).1), true) := by
  obtain ⟨n1, y, hy, e1⟩ := eval_true names vals ha h1
  obtain ⟨n2, z, hz, e2⟩ := eval_true names vals hb h2
  obtain ⟨u, hu, hc⟩ := merge_sum names vals k _ a.P b.P y z (Nat.le_refl _) hy hz
  have hP : (plusL a b k).P = mergeP k a.P b.P := P_ofP _ _
  rw [eval_of names vals (plus_sm ha hb n1 n2) (plus_norm n1 n2 h16) (by rw [hP]; exact hu), e1, e2]
  have hoff : (plusL a b k).off = add64 a.off (mul64 k b.off) := rfl
  rw [hoff]
  have h3 : cg (add64 a.off (mul64 k b.off) + u) (a.off + k * b.off + (y + k * z)) := ((cg_wrap _).trans ((cg.refl a.off).add (cg_wrap _))).add hc
  have h4 : cg (wrap64 (a.off + y) + k * wrap64 (b.off + z)) (a.off + y + k * (b.off + z)) := (cg_wrap _).add ((cg_wrap _).mull k)
  have e : a.off + k * b.off + (y + k * z) = a.off + y + k * (b.off + z) := by rw [Int.mul_add]; omega
  rw [e] at h3
  rw [(h3.trans h4.symm).wrap]
end
end Go.Proofs.YtbnaakognnkhdaaGreatDoor
