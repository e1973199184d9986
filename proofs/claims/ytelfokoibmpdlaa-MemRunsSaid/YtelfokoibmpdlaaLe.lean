/- Plain arithmetic of numbers in bytes, the lowest first. -/
import Derived.Test.YtelfokoibmpdlaaFr
import Derived.Laws.BitsAll
namespace Go.Proofs.Ytelfokoibmpdlaa
open Go.RowKit

/-- Bytes. -/
def By (l : List Int) : Prop := ∀ x ∈ l, 0 ≤ x ∧ x < 256
theorem By.drop {l : List Int} (h : By l) (k : Nat) : By (l.drop k) := fun x hx => h x (List.mem_of_mem_drop hx)
theorem By.take {l : List Int} (h : By l) (k : Nat) : By (l.take k) := fun x hx => h x (List.mem_of_mem_take hx)
theorem By.app {l m : List Int} (h : By l) (k : By m) : By (l ++ m) := fun x hx => by
  rcases List.mem_append.1 hx with g | g
  · exact h x g
  · exact k x g
theorem By.at_ {l : List Int} (h : By l) {i : Nat} (hi : i < l.length) : 0 ≤ l[i] ∧ l[i] < 256 := h _ (List.getElem_mem hi)
theorem By.nil : By [] := fun x hx => by cases hx
/-- The number of bytes, the lowest first. -/
def leI : List Int → Int
  | [] => 0
  | x :: l => x + 256 * leI l
/-- 256 to the power of n. -/
def p8 (n : Nat) : Int := ((256 ^ n : Nat) : Int)
theorem p8_zero : p8 0 = 1 := rfl
theorem p8_succ (n : Nat) : p8 (n + 1) = p8 n * 256 := by unfold p8; rw [Nat.pow_succ]; simp
theorem p8_pos (n : Nat) : 0 < p8 n := by unfold p8; have := Nat.pow_pos (n := n) (show 0 < 256 by omega); omega
theorem p8_add (m n : Nat) : p8 (m + n) = p8 m * p8 n := by unfold p8; rw [Nat.pow_add]; simp
theorem p8_le {m n : Nat} (h : m ≤ n) : p8 m ≤ p8 n := by unfold p8; have := Nat.pow_le_pow_right (n := 256) (by omega) h; omega
theorem p8_two (n : Nat) : p8 n = 2 ^ (8 * n) := by unfold p8; rw [Int.pow_mul]; simp
theorem p8_eight : p8 8 = 18446744073709551616 := by decide
theorem leI_range {l : List Int} (h : By l) : 0 ≤ leI l ∧ leI l < p8 l.length := by
  induction l with
  | nil => exact ⟨Int.le_refl _, by decide⟩
  | cons x l ih =>
    obtain ⟨a, b⟩ := ih fun y hy => h y (List.mem_cons_of_mem _ hy)
    obtain ⟨c, d⟩ := h x List.mem_cons_self
    rw [List.length_cons, p8_succ]
    unfold leI
    exact ⟨by omega, by omega⟩
theorem leI_snoc (l : List Int) (x : Int) : leI (l ++ [x]) = leI l + x * p8 l.length := by
  induction l with
  | nil => simp [leI, p8_zero]
  | cons y l ih =>
    show y + 256 * leI (l ++ [x]) = y + 256 * leI l + x * p8 (l.length + 1)
    rw [ih, p8_succ, Int.mul_add, ← Int.add_assoc, show x * (p8 l.length * 256) = 256 * (x * p8 l.length) by rw [← Int.mul_assoc, Int.mul_comm]]
theorem take_snoc {l : List Int} {i : Nat} (h : i < l.length) : l.take (i + 1) = l.take i ++ [l[i]] := by
  rw [List.take_succ_eq_append_getElem h]
/-- The lowest n bytes of a number. -/
def litI : Nat → Int → List Int
  | 0, _ => []
  | n + 1, v => v % 256 :: litI n (v / 256)
theorem litI_length (n : Nat) (v : Int) : (litI n v).length = n := by
  induction n generalizing v with
  | zero => rfl
  | succ n ih => simp [litI, ih]
theorem litI_by (n : Nat) (v : Int) : By (litI n v) := by
  induction n generalizing v with
  | zero => exact By.nil
  | succ n ih =>
    intro x hx
    rcases List.mem_cons.1 hx with rfl | h
    · omega
    · exact ih _ x h
theorem litI_get (n : Nat) (v : Int) (i : Nat) (h : i < n) : (litI n v)[i]? = some (v / p8 i % 256) := by
  induction n generalizing v i with
  | zero => omega
  | succ n ih =>
    cases i with
    | zero => simp [litI, p8_zero]
    | succ i =>
      rw [litI, List.getElem?_cons_succ, ih _ _ (by omega), p8_succ, Int.mul_comm, ← Int.ediv_ediv_of_nonneg (by omega)]
theorem litI_snoc (n : Nat) (v : Int) : litI (n + 1) v = litI n v ++ [v / p8 n % 256] := by
  induction n generalizing v with
  | zero => simp [litI, p8_zero]
  | succ n ih =>
    rw [litI, ih, litI, p8_succ, List.cons_append, Int.ediv_ediv_of_nonneg (by omega), Int.mul_comm]
theorem leI_litI (n : Nat) (v : Int) : leI (litI n v) = v % p8 n := by
  induction n generalizing v with
  | zero => simp [litI, leI, p8_zero]
  | succ n ih =>
    rw [litI, leI, ih, p8_succ, Int.mul_comm (p8 n)]
    have hp := p8_pos n
    have h1 := Int.mul_ediv_add_emod v 256
    have h2 := Int.mul_ediv_add_emod (v / 256) (p8 n)
    have h3 := Int.emod_nonneg (v / 256) (show p8 n ≠ 0 by omega)
    have h4 := Int.emod_lt_of_pos (v / 256) hp
    have h5 := Int.emod_nonneg v (show (256 : Int) ≠ 0 by omega)
    have h6 := Int.emod_lt_of_pos v (show (0 : Int) < 256 by omega)
    have e : v = (v % 256 + 256 * (v / 256 % p8 n)) + 256 * p8 n * (v / 256 / p8 n) := by
      rw [Int.mul_assoc]; omega
    conv => rhs; rw [e]
    rw [Int.add_mul_emod_self_left]
    exact (Int.emod_eq_of_lt (by omega) (by omega)).symm

/-- A byte laid above i bytes. -/
theorem or_byte {y x : Int} {i : Nat} (hi : i < 8) (y0 : 0 ≤ y) (y1 : y < p8 i) (x0 : 0 ≤ x) (x1 : x < 256) : bits .or .u64 y (x * 2 ^ (8 * i) % 18446744073709551616) = y + x * p8 i := by
  obtain ⟨m, rfl⟩ := Int.eq_ofNat_of_zero_le y0
  obtain ⟨n, rfl⟩ := Int.eq_ofNat_of_zero_le x0
  have e8 : p8 8 = p8 i * p8 (8 - i) := by rw [← p8_add]; congr 1; omega
  have l8 : (256 : Int) ≤ p8 (8 - i) := p8_le (show 1 ≤ 8 - i by omega)
  have hp := p8_pos i
  have hlt : (n : Int) * p8 i + p8 i ≤ 18446744073709551616 := by
    have h1 : ((n : Int) + 1) * p8 i ≤ 256 * p8 i := Int.mul_le_mul_of_nonneg_right (by omega) (by omega)
    have h2 : 256 * p8 i ≤ p8 (8 - i) * p8 i := Int.mul_le_mul_of_nonneg_right l8 (by omega)
    rw [Int.add_mul, Int.one_mul] at h1
    rw [p8_eight, Int.mul_comm] at e8
    omega
  have h0 : 0 ≤ (n : Int) * p8 i := Int.mul_nonneg (by omega) (by omega)
  have ex : (n : Int) * 2 ^ (8 * i) % 18446744073709551616 = (n : Int) * p8 i := by
    rw [← p8_two]; exact Int.emod_eq_of_lt h0 (by omega)
  rw [ex]
  have ep : p8 i = ((2 ^ (8 * i) : Nat) : Int) := by rw [p8_two]; simp
  have en : (n : Int) * p8 i = ((2 ^ (8 * i) * n : Nat) : Int) := by rw [ep, Int.natCast_mul, Int.mul_comm]
  rw [u64_or _ _ (by omega) (by omega) h0 (by omega), en, Int.toNat_natCast, Int.toNat_natCast, Nat.or_comm, ← Nat.two_pow_add_eq_or_of_lt (by omega)]
  omega
end Go.Proofs.Ytelfokoibmpdlaa
