/- Plain arithmetic of 128-bit numbers as two words of 64; nothing of the program. An integer v stands for the two words of v modulo 2^128. -/
import Derived.Test.YtglgbhlnfafhjaaFr
namespace Go.Proofs.Ytglgbhlnfafhjaa
open Go.RowKit

/-- The high word and the low word of an integer modulo 2^128. -/
def hi (v : Int) : Int := v / 18446744073709551616 % 18446744073709551616
def lo (v : Int) : Int := v % 18446744073709551616
abbrev wv (v : Int) : Value := .agg #[.int .u64 (hi v), .int .u64 (lo v)]
abbrev bv (W v : Int) : Value := .agg #[.int .i64 W, .int .u64 (hi v), .int .u64 (lo v)]

@[simp] theorem size_set (w : World) (a : Addr) (v : Value) : (w.setCell a v).heap.size = w.heap.size := by simp [World.setCell]

/-- A word. -/
def Word (x : Int) : Prop := 0 ≤ x ∧ x < 18446744073709551616

theorem hi_word (v : Int) : Word (hi v) := by unfold Word hi; omega
theorem lo_word (v : Int) : Word (lo v) := by unfold Word lo; omega
theorem hi_join (h l : Int) (hh : Word h) (hl : Word l) : hi (h * 18446744073709551616 + l) = h := by
  obtain ⟨_, _⟩ := hh; obtain ⟨_, _⟩ := hl; unfold hi; omega
theorem lo_join (h l : Int) (hl : Word l) : lo (h * 18446744073709551616 + l) = l := by
  obtain ⟨_, _⟩ := hl; unfold lo; omega
theorem hilo_mod (v : Int) : hi v * 18446744073709551616 + lo v = v % 340282366920938463463374607431768211456 := by unfold hi lo; omega
theorem hi_mod (v : Int) : hi (v % 340282366920938463463374607431768211456) = hi v := by unfold hi; omega
theorem lo_mod (v : Int) : lo (v % 340282366920938463463374607431768211456) = lo v := by unfold lo; omega
theorem hi_congr {a b : Int} (h : a % 340282366920938463463374607431768211456 = b % 340282366920938463463374607431768211456) : hi a = hi b := by
  rw [← hi_mod a, h, hi_mod]
theorem lo_congr {a b : Int} (h : a % 340282366920938463463374607431768211456 = b % 340282366920938463463374607431768211456) : lo a = lo b := by
  rw [← lo_mod a, h, lo_mod]
theorem eq_of_hilo {a b : Int} (h : hi a = hi b) (l : lo a = lo b) : a % 340282366920938463463374607431768211456 = b % 340282366920938463463374607431768211456 := by
  rw [← hilo_mod, ← hilo_mod, h, l]
theorem hi_small (v : Int) (h0 : 0 ≤ v) (h1 : v < 340282366920938463463374607431768211456) : hi v = v / 18446744073709551616 := by unfold hi; omega
theorem word_of_wf {x : Int} (h : (Lit.int .u64 x).wf = true) : Word x := by
  simp [Lit.wf, IntKind.min, IntKind.max, IntKind.signed, IntKind.bits] at h
  exact ⟨by omega, by omega⟩
/-- Two words, whatever they are, are those of one number. -/
theorem of_words {h l : Int} (hh : Word h) (hl : Word l) : ∃ v : Int, 0 ≤ v ∧ v < 340282366920938463463374607431768211456 ∧ hi v = h ∧ lo v = l := by
  refine ⟨h * 18446744073709551616 + l, ?_, ?_, hi_join h l hh hl, lo_join h l hl⟩
  · obtain ⟨_, _⟩ := hh; obtain ⟨_, _⟩ := hl; omega
  · obtain ⟨_, _⟩ := hh; obtain ⟨_, _⟩ := hl; omega

/-! Sums and differences. -/
theorem hi_add (a b : Int) : hi (a + b) = (hi a + hi b + (lo a + lo b) / 18446744073709551616) % 18446744073709551616 := by unfold hi lo; omega
theorem lo_add (a b : Int) : lo (a + b) = (lo a + lo b) % 18446744073709551616 := by unfold lo; omega
def bor (x y : Int) : Int := if x < y then 1 else 0
theorem hi_sub (a b : Int) : hi (a - b) = (hi a - hi b - bor (lo a) (lo b)) % 18446744073709551616 := by unfold hi lo bor; split <;> omega
theorem lo_sub (a b : Int) : lo (a - b) = (lo a - lo b) % 18446744073709551616 := by unfold lo; omega
theorem hi_not (a : Int) : hi (-1 - a) = 18446744073709551615 - hi a := by unfold hi; omega
theorem lo_not (a : Int) : lo (-1 - a) = 18446744073709551615 - lo a := by unfold lo; omega
theorem bits_not (x : Int) (h : Word x) : bits .xor .u64 IntKind.u64.max x = 18446744073709551615 - x := by
  obtain ⟨h0, h1⟩ := h
  have e : IntKind.u64.max = 18446744073709551615 := by decide
  rw [e, u64_xor _ _ (by decide) (by decide) h0 h1]
  obtain ⟨n, rfl⟩ := Int.eq_ofNat_of_zero_le h0
  have hn : n < 2 ^ 64 := by omega
  have k : (18446744073709551615 : Int).toNat ^^^ ((n : Nat) : Int).toNat = 2 ^ 64 - 1 - n := by
    rw [Int.toNat_natCast]
    show (2 ^ 64 - 1) ^^^ n = _
    apply Nat.eq_of_testBit_eq
    intro i
    rw [Nat.testBit_xor, Nat.testBit_two_pow_sub_one, Nat.sub_sub, Nat.add_comm 1 n, Nat.testBit_two_pow_sub_succ hn]
    by_cases hi : i < 64
    · simp [hi]
    · have : n.testBit i = false := Nat.testBit_lt_two_pow (Nat.lt_of_lt_of_le hn (Nat.pow_le_pow_right (by decide) (by omega)))
      simp [hi, this]
  rw [k]; omega

/-! Bit by bit. -/
def nat128 (a : Int) : Nat := (a % 340282366920938463463374607431768211456).toNat
def landI (a b : Int) : Int := ((nat128 a &&& nat128 b : Nat) : Int)
def lorI (a b : Int) : Int := ((nat128 a ||| nat128 b : Nat) : Int)
def lxorI (a b : Int) : Int := ((nat128 a ^^^ nat128 b : Nat) : Int)
theorem nat128_lt (a : Int) : nat128 a < 2 ^ 128 := by unfold nat128; omega
theorem nat128_eq (a : Int) : ((nat128 a : Nat) : Int) = a % 340282366920938463463374607431768211456 := by unfold nat128; omega
theorem nat128_nat (n : Nat) (h : n < 2 ^ 128) : nat128 (n : Int) = n := by unfold nat128; omega
theorem hi_nat (a : Int) : hi a = ((nat128 a / 2 ^ 64 : Nat) : Int) := by
  unfold nat128 hi; omega
theorem lo_nat (a : Int) : lo a = ((nat128 a % 2 ^ 64 : Nat) : Int) := by
  unfold nat128 lo; omega
theorem hi_and (a b : Int) : bits .and .u64 (hi a) (hi b) = hi (landI a b) := by
  obtain ⟨h0, h1⟩ := hi_word a; obtain ⟨k0, k1⟩ := hi_word b
  rw [u64_and _ _ h0 h1 k0 k1, hi_nat a, hi_nat b, hi_nat (landI a b), Int.toNat_natCast, Int.toNat_natCast]
  unfold landI
  rw [nat128_nat _ (Nat.and_lt_two_pow _ (nat128_lt b)), Nat.and_div_two_pow]
theorem lo_and (a b : Int) : bits .and .u64 (lo a) (lo b) = lo (landI a b) := by
  obtain ⟨h0, h1⟩ := lo_word a; obtain ⟨k0, k1⟩ := lo_word b
  rw [u64_and _ _ h0 h1 k0 k1, lo_nat a, lo_nat b, lo_nat (landI a b), Int.toNat_natCast, Int.toNat_natCast]
  unfold landI
  rw [nat128_nat _ (Nat.and_lt_two_pow _ (nat128_lt b)), Nat.and_mod_two_pow]
theorem hi_or (a b : Int) : bits .or .u64 (hi a) (hi b) = hi (lorI a b) := by
  obtain ⟨h0, h1⟩ := hi_word a; obtain ⟨k0, k1⟩ := hi_word b
  rw [u64_or _ _ h0 h1 k0 k1, hi_nat a, hi_nat b, hi_nat (lorI a b), Int.toNat_natCast, Int.toNat_natCast]
  unfold lorI
  rw [nat128_nat _ (Nat.or_lt_two_pow (nat128_lt a) (nat128_lt b)), Nat.or_div_two_pow]
theorem lo_or (a b : Int) : bits .or .u64 (lo a) (lo b) = lo (lorI a b) := by
  obtain ⟨h0, h1⟩ := lo_word a; obtain ⟨k0, k1⟩ := lo_word b
  rw [u64_or _ _ h0 h1 k0 k1, lo_nat a, lo_nat b, lo_nat (lorI a b), Int.toNat_natCast, Int.toNat_natCast]
  unfold lorI
  rw [nat128_nat _ (Nat.or_lt_two_pow (nat128_lt a) (nat128_lt b)), Nat.or_mod_two_pow]
theorem hi_xor (a b : Int) : bits .xor .u64 (hi a) (hi b) = hi (lxorI a b) := by
  obtain ⟨h0, h1⟩ := hi_word a; obtain ⟨k0, k1⟩ := hi_word b
  rw [u64_xor _ _ h0 h1 k0 k1, hi_nat a, hi_nat b, hi_nat (lxorI a b), Int.toNat_natCast, Int.toNat_natCast]
  unfold lxorI
  rw [nat128_nat _ (Nat.xor_lt_two_pow (nat128_lt a) (nat128_lt b)), Nat.xor_div_two_pow]
theorem lo_xor (a b : Int) : bits .xor .u64 (lo a) (lo b) = lo (lxorI a b) := by
  obtain ⟨h0, h1⟩ := lo_word a; obtain ⟨k0, k1⟩ := lo_word b
  rw [u64_xor _ _ h0 h1 k0 k1, lo_nat a, lo_nat b, lo_nat (lxorI a b), Int.toNat_natCast, Int.toNat_natCast]
  unfold lxorI
  rw [nat128_nat _ (Nat.xor_lt_two_pow (nat128_lt a) (nat128_lt b)), Nat.xor_mod_two_pow]
/-! Comparing. -/
def negB (a : Int) : Bool := decide (9223372036854775808 ≤ hi a)
def ltB (a b : Int) : Bool := decide (a % 340282366920938463463374607431768211456 < b % 340282366920938463463374607431768211456)
theorem negB_of_div (a : Int) : (hi a / 9223372036854775808 != 0) = negB a := by
  obtain ⟨h0, h1⟩ := hi_word a
  unfold negB
  by_cases h : 9223372036854775808 ≤ hi a
  · rw [decide_eq_true h, bne_iff_ne]; omega
  · rw [decide_eq_false h, bne_eq_false_iff_eq]; omega
theorem ltB_hi (a b : Int) (h : (hi a != hi b) = true) : decide (hi a < hi b) = ltB a b := by
  rw [bne_iff_ne] at h
  obtain ⟨h0, h1⟩ := lo_word a; obtain ⟨k0, k1⟩ := lo_word b
  unfold ltB
  rw [← hilo_mod a, ← hilo_mod b]
  exact decide_eq_decide.2 (by omega)
theorem ltB_lo (a b : Int) (h : (hi a != hi b) = false) : decide (lo a < lo b) = ltB a b := by
  rw [bne_eq_false_iff_eq] at h
  unfold ltB
  rw [← hilo_mod a, ← hilo_mod b, h]
  exact decide_eq_decide.2 (by omega)

/-! Shifts. -/
theorem lt_pow_of (y : Int) (k : Nat) (h : y < 2 ^ k) (h0 : 0 ≤ y) : y.toNat < 2 ^ k := by
  have e : ((2 ^ k : Nat) : Int) = (2 : Int) ^ k := by simp
  omega
theorem or_join (x y : Int) (k : Nat) (hx : Word x) (hy : Word y) (hm : x % 2 ^ k = 0) (hl : y < 2 ^ k) : bits .or .u64 x y = x + y := by
  obtain ⟨h0, h1⟩ := hx; obtain ⟨k0, k1⟩ := hy
  rw [u64_or _ _ h0 h1 k0 k1]
  obtain ⟨n, rfl⟩ := Int.eq_ofNat_of_zero_le h0
  obtain ⟨m, rfl⟩ := Int.eq_ofNat_of_zero_le k0
  have e : ((2 ^ k : Nat) : Int) = (2 : Int) ^ k := by simp
  rw [Int.toNat_natCast, Int.toNat_natCast, nat_join k n m (by rw [← e] at hm; omega) (by rw [← e] at hl; omega)]
  omega
theorem pow_split (n : Nat) (h : n ≤ 64) : (2 : Int) ^ n * 2 ^ (64 - n) = 18446744073709551616 := by
  rw [← Int.pow_add, Nat.add_sub_cancel' h]; rfl
theorem emod_mul_l (x P m : Int) : x % m * P % m = x * P % m := by
  rw [Int.mul_emod, Int.emod_emod_of_dvd _ (Int.dvd_refl _), ← Int.mul_emod]
theorem pow_pos' (n : Nat) : (0 : Int) < 2 ^ n := Int.pow_pos (by decide)

/-- a * P, where P * Q is 2^64: its words. -/
theorem mul_hi (a P Q : Int) (hP : 0 < P) (hQ : 0 < Q) (hPQ : P * Q = 18446744073709551616) :
    hi (a * P) = hi a * P % 18446744073709551616 + lo a / Q ∧ lo (a * P) = lo a * P % 18446744073709551616 := by
  have hl0 := (lo_word a).1
  have hl1 := (lo_word a).2
  have hb : lo a / Q < P := Int.ediv_lt_of_lt_mul hQ (by rw [hPQ]; exact hl1)
  have hb0 : 0 ≤ lo a / Q := Int.ediv_nonneg hl0 (Int.le_of_lt hQ)
  have hdec : a = (a / 18446744073709551616) * 18446744073709551616 + lo a := by unfold lo; omega
  have h1 : a * P / 18446744073709551616 = (a / 18446744073709551616) * P + lo a / Q := by
    have e : a * P / 18446744073709551616 = a / Q := by
      rw [← hPQ, Int.mul_comm P Q]; exact Int.mul_ediv_mul_of_pos_left _ _ hP
    rw [e]
    have e2 : a = lo a + (a / 18446744073709551616 * P) * Q := by
      rw [Int.mul_assoc, hPQ]; omega
    calc a / Q = (lo a + (a / 18446744073709551616 * P) * Q) / Q := by rw [← e2]
      _ = lo a / Q + a / 18446744073709551616 * P := Int.add_mul_ediv_right _ _ (by omega)
      _ = _ := by omega
  constructor
  · have hm : (a / 18446744073709551616 * P) % 18446744073709551616 = hi a * P % 18446744073709551616 := by
      unfold hi; rw [emod_mul_l]
    have hdiv : (hi a * P % 18446744073709551616) % P = 0 := by
      rw [Int.emod_emod_of_dvd _ ⟨Q, hPQ.symm⟩]; exact Int.mul_emod_left _ _
    have hle : hi a * P % 18446744073709551616 + P ≤ 18446744073709551616 := by
      have hx := Int.emod_lt_of_pos (hi a * P) (by decide : (0 : Int) < 18446744073709551616)
      obtain ⟨c, hc⟩ := Int.dvd_of_emod_eq_zero hdiv
      rw [hc] at hx ⊢
      rw [← hPQ] at hx ⊢
      have : c < Q := Int.lt_of_mul_lt_mul_left hx (Int.le_of_lt hP)
      calc P * c + P = P * (c + 1) := by rw [Int.mul_add, Int.mul_one]
        _ ≤ P * Q := Int.mul_le_mul_of_nonneg_left (by omega) (Int.le_of_lt hP)
    have h0 := Int.emod_nonneg (hi a * P) (by decide : (18446744073709551616 : Int) ≠ 0)
    show a * P / 18446744073709551616 % 18446744073709551616 = _
    rw [h1, Int.add_emod, hm]
    rw [Int.emod_eq_of_lt (a := lo a / Q) hb0 (by omega)]
    exact Int.emod_eq_of_lt (by omega) (by omega)
  · show a * P % 18446744073709551616 = _
    unfold lo; rw [emod_mul_l]
/-- The value, shifted down. -/
def shrI (a : Int) (n : Nat) : Int := a % 340282366920938463463374607431768211456 / 2 ^ n
theorem div_words (a P Q : Int) (hP : 0 < P) (hQ : 0 < Q) (hPQ : P * Q = 18446744073709551616) :
    hi (a % 340282366920938463463374607431768211456 / P) = hi a / P ∧ lo (a % 340282366920938463463374607431768211456 / P) = lo a / P + hi a * Q % 18446744073709551616 := by
  obtain ⟨a0, a1⟩ := hi_word a; obtain ⟨b0, b1⟩ := lo_word a
  have hb : lo a / P < Q := Int.ediv_lt_of_lt_mul hP (by rw [Int.mul_comm, hPQ]; exact b1)
  have hb0 : 0 ≤ lo a / P := Int.ediv_nonneg b0 (Int.le_of_lt hP)
  have e : a % 340282366920938463463374607431768211456 / P = hi a * Q + lo a / P := by
    rw [← hilo_mod a]
    have : hi a * 18446744073709551616 + lo a = lo a + (hi a * Q) * P := by rw [Int.mul_assoc, Int.mul_comm Q P, hPQ]; omega
    rw [this, Int.add_mul_ediv_right _ _ (by omega)]; omega
  have hdiv : (hi a * Q % 18446744073709551616) % Q = 0 := by
    rw [Int.emod_emod_of_dvd _ ⟨P, by rw [Int.mul_comm]; exact hPQ.symm⟩]; exact Int.mul_emod_left _ _
  have hle : hi a * Q % 18446744073709551616 + Q ≤ 18446744073709551616 := by
    have hx := Int.emod_lt_of_pos (hi a * Q) (by decide : (0 : Int) < 18446744073709551616)
    obtain ⟨c, hc⟩ := Int.dvd_of_emod_eq_zero hdiv
    rw [hc] at hx ⊢
    rw [← hPQ, Int.mul_comm P Q] at hx ⊢
    have : c < P := Int.lt_of_mul_lt_mul_left hx (Int.le_of_lt hQ)
    calc Q * c + Q = Q * (c + 1) := by rw [Int.mul_add, Int.mul_one]
      _ ≤ Q * P := Int.mul_le_mul_of_nonneg_left (by omega) (Int.le_of_lt hQ)
  have h0 := Int.emod_nonneg (hi a * Q) (by decide : (18446744073709551616 : Int) ≠ 0)
  constructor
  · unfold hi at *
    rw [e]
    have e2 : (a / 18446744073709551616 % 18446744073709551616 * Q + lo a / P) / 18446744073709551616 = a / 18446744073709551616 % 18446744073709551616 / P := by
      have hq : (18446744073709551616 : Int) = Q * P := by rw [Int.mul_comm]; exact hPQ.symm
      have e3 : (a / 18446744073709551616 % 18446744073709551616 * Q + lo a / P) / (Q * P) = (a / 18446744073709551616 % 18446744073709551616 * Q + lo a / P) / Q / P := by
        rw [Int.ediv_ediv_of_nonneg (Int.le_of_lt hQ)]
      have e4 : (a / 18446744073709551616 % 18446744073709551616 * Q + lo a / P) / Q = a / 18446744073709551616 % 18446744073709551616 := by
        rw [Int.add_comm, Int.add_mul_ediv_right _ _ (by omega), Int.ediv_eq_zero_of_lt hb0 hb]; omega
      calc _ = (a / 18446744073709551616 % 18446744073709551616 * Q + lo a / P) / (Q * P) := by rw [← hq]
        _ = _ := by rw [e3, e4]
    rw [e2]
    apply Int.emod_eq_of_lt (Int.ediv_nonneg a0 (Int.le_of_lt hP))
    exact Int.lt_of_le_of_lt (Int.ediv_le_self _ a0) a1
  · show (a % 340282366920938463463374607431768211456 / P) % 18446744073709551616 = _
    rw [e, Int.add_emod, Int.emod_eq_of_lt (a := lo a / P) hb0 (by omega)]
    rw [Int.emod_eq_of_lt (by omega) (by omega)]; omega

theorem word_emod (x : Int) : Word (x % 18446744073709551616) := ⟨by omega, by omega⟩
/-- The words of a shift up by less than 64. -/
theorem shl_words (a : Int) (n : Nat) (h : n ≤ 64) : bits .or .u64 (hi a * 2 ^ n % 18446744073709551616) (lo a / 2 ^ (64 - n)) = hi (a * 2 ^ n) ∧ lo a * 2 ^ n % 18446744073709551616 = lo (a * 2 ^ n) := by
  have hP := pow_pos' n
  have hQ := pow_pos' (64 - n)
  have hPQ := pow_split n h
  obtain ⟨h1, h2⟩ := mul_hi a _ _ hP hQ hPQ
  obtain ⟨b0, b1⟩ := lo_word a
  refine ⟨?_, h2.symm⟩
  rw [h1]
  refine or_join _ _ n (word_emod _) ⟨Int.ediv_nonneg b0 (Int.le_of_lt hQ), Int.lt_of_le_of_lt (Int.ediv_le_self _ b0) b1⟩ ?_ (Int.ediv_lt_of_lt_mul hQ (by rw [hPQ]; exact b1))
  rw [Int.emod_emod_of_dvd _ ⟨_, hPQ.symm⟩]; exact Int.mul_emod_left _ _
theorem shr_words (a : Int) (n : Nat) (h : n ≤ 64) : hi a / 2 ^ n = hi (shrI a n) ∧ bits .or .u64 (lo a / 2 ^ n) (hi a * 2 ^ (64 - n) % 18446744073709551616) = lo (shrI a n) := by
  have hP := pow_pos' n
  have hQ := pow_pos' (64 - n)
  have hPQ := pow_split n h
  obtain ⟨h1, h2⟩ := div_words a _ _ hP hQ hPQ
  obtain ⟨b0, b1⟩ := lo_word a
  refine ⟨h1.symm, ?_⟩
  unfold shrI
  rw [h2, u64_or _ _ (Int.ediv_nonneg b0 (Int.le_of_lt hP)) (Int.lt_of_le_of_lt (Int.ediv_le_self _ b0) b1) (word_emod _).1 (word_emod _).2, Nat.or_comm, ← u64_or _ _ (word_emod _).1 (word_emod _).2 (Int.ediv_nonneg b0 (Int.le_of_lt hP)) (Int.lt_of_le_of_lt (Int.ediv_le_self _ b0) b1)]
  rw [or_join _ _ (64 - n) (word_emod _) ⟨Int.ediv_nonneg b0 (Int.le_of_lt hP), Int.lt_of_le_of_lt (Int.ediv_le_self _ b0) b1⟩ ?_ (Int.ediv_lt_of_lt_mul hP (by rw [Int.mul_comm, hPQ]; exact b1)), Int.add_comm]
  rw [Int.emod_emod_of_dvd _ ⟨2 ^ n, by rw [Int.mul_comm]; exact hPQ.symm⟩]; exact Int.mul_emod_left _ _
theorem pow64 (m : Nat) : (2 : Int) ^ (m + 64) = 2 ^ m * 18446744073709551616 := by rw [Int.pow_add]; rfl
/-- The words of a shift up by 64 and more. -/
theorem shl_big (a : Int) (m : Nat) : hi (a * 2 ^ (m + 64)) = lo a * 2 ^ m % 18446744073709551616 ∧ lo (a * 2 ^ (m + 64)) = 0 := by
  rw [pow64, ← Int.mul_assoc]
  constructor
  · unfold hi lo; rw [Int.mul_ediv_cancel _ (by decide), emod_mul_l]
  · unfold lo; exact Int.mul_emod_left _ _
theorem shr_big (a : Int) (m : Nat) : hi (shrI a (m + 64)) = 0 ∧ lo (shrI a (m + 64)) = hi a / 2 ^ m := by
  obtain ⟨a0, a1⟩ := hi_word a; obtain ⟨b0, b1⟩ := lo_word a
  have e : shrI a (m + 64) = hi a / 2 ^ m := by
    unfold shrI
    rw [pow64, Int.mul_comm, ← Int.ediv_ediv_of_nonneg (by decide), ← hilo_mod a]
    congr 1; omega
  have h0 : 0 ≤ hi a / 2 ^ m := Int.ediv_nonneg a0 (Int.le_of_lt (pow_pos' m))
  have h1 : hi a / 2 ^ m < 18446744073709551616 := Int.lt_of_le_of_lt (Int.ediv_le_self _ a0) a1
  rw [e]
  generalize hi a / 2 ^ m = x at *
  unfold hi lo; omega
/-! Products. -/
theorem lo_mul (a b : Int) : lo (a * b) = lo a * lo b % 18446744073709551616 := by
  unfold lo; rw [Int.mul_emod]
theorem hi_mul (a b : Int) : hi (a * b) = (lo a * lo b / 18446744073709551616 + hi a * lo b + lo a * hi b) % 18446744073709551616 := by
  have e : (a * b) % 340282366920938463463374607431768211456 = (((hi a * hi b) * 18446744073709551616 + (hi a * lo b + lo a * hi b)) * 18446744073709551616 + lo a * lo b) % 340282366920938463463374607431768211456 := by
    rw [Int.mul_emod, ← hilo_mod a, ← hilo_mod b]
    congr 1
    generalize hi a = A; generalize lo a = l; generalize hi b = B; generalize lo b = m
    rw [Int.add_mul, Int.mul_add, Int.mul_add, Int.add_mul (A * B * _), Int.add_mul (A * m)]
    simp only [Int.mul_assoc, Int.mul_comm, Int.mul_left_comm, Int.add_assoc, Int.add_comm]
  rw [hi_congr e]
  generalize lo a * lo b = x; generalize hi a * lo b = y; generalize lo a * hi b = z; generalize hi a * hi b = u
  unfold hi; omega
theorem hi_mul' (a b : Int) : IntKind.u64.wrap (IntKind.u64.wrap (lo a * lo b / 18446744073709551616 + IntKind.u64.wrap (hi a * lo b)) + IntKind.u64.wrap (lo a * hi b)) = hi (a * b) := by
  rw [hi_mul]
  simp only [IntKind.wrap_u64]
  generalize lo a * lo b = x; generalize hi a * lo b = y; generalize lo a * hi b = z
  omega
theorem hi_zero : hi 0 = 0 := rfl
theorem lo_zero : lo 0 = 0 := rfl
theorem hi_one : hi 1 = 0 := rfl
theorem lo_one : lo 1 = 1 := rfl
theorem shrI_ones (n : Nat) (h : n ≤ 128) : shrI (-1) (128 - n) = 2 ^ n - 1 := by
  unfold shrI
  have e : (-1 : Int) % 340282366920938463463374607431768211456 = 340282366920938463463374607431768211455 := by decide
  have hs : (2 : Int) ^ n * 2 ^ (128 - n) = 340282366920938463463374607431768211456 := by
    rw [← Int.pow_add, Nat.add_sub_cancel' h]; rfl
  have hQ := pow_pos' (128 - n)
  rw [e]
  have : (340282366920938463463374607431768211455 : Int) = (2 ^ (128 - n) - 1) + (2 ^ n - 1) * 2 ^ (128 - n) := by
    rw [Int.sub_mul, hs]; omega
  rw [this, Int.add_mul_ediv_right _ _ (by omega), Int.ediv_eq_zero_of_lt (by omega) (by omega)]; omega
end Go.Proofs.Ytglgbhlnfafhjaa
