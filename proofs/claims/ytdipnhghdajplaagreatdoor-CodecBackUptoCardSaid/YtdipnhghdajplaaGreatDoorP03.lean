/- Facts on widths; nothing of the program. -/
import Derived.Test.YtdipnhghdajplaaGreatDoorP00
namespace Go.Proofs.YtdipnhghdajplaaGreatDoor
open Go.RowKit
set_option linter.unusedSimpArgs false
set_option linter.unusedVariables false
theorem fileO_bd {E : Env} {a : Int} {f : Int × Int × Int} (h : fileO E a = some f) : 1 ≤ f.2.1 ∧ f.2.1 ≤ 64 := by
 unfold fileO at h
 split at h
 · split at h
   · split at h
     · rename_i hf
       injection h with h; subst h
       simp only [fileB, Bool.and_eq_true, decide_eq_true_eq] at hf
       omega
     · cases h
   · cases h
 · cases h
theorem regW_bd (E : Env) (a b : Int) : 0 ≤ regW E a b ∧ regW E a b ≤ 128 := by
 unfold regW
 split
 · omega
 · rename_i f h
   have := fileO_bd h
   split
   · omega
   · split <;> omega
theorem wideI_bd (x : Int) : 0 ≤ wideI x ∧ wideI x ≤ 128 := by unfold wideI; split <;> omega
theorem leafW_bd (E : Env) (op w a b : Int) : 0 ≤ leafW E op w a b ∧ leafW E op w a b ≤ 128 := by
 have h1 := regW_bd E a b
 have h2 := wideI_bd w
 unfold leafW
 repeat' split
 all_goals omega
theorem joinW_bd (op w a b x y z : Int) (hx : 0 ≤ x ∧ x ≤ 128) (hy : 0 ≤ y ∧ y ≤ 128) : 0 ≤ joinW op w a b x y z ∧ joinW op w a b x y z ≤ 128 := by
 have h2 := wideI_bd w
 have h3 := wideI_bd (x + y)
 unfold joinW sharedI
 repeat' split
 all_goals (try simp only [memB, Bool.or_eq_true, decide_eq_true_eq] at *)
 all_goals omega
mutual
theorem widT_bd (E : Env) : ∀ t : Tm, 0 ≤ widT E t ∧ widT E t ≤ 128
 | .node op w a b ks => by
   have h := widL_bd E ks
   unfold widT
   split
   · split
     · omega
     · rename_i ws hws
       have hb : ∀ k, 0 ≤ ws.getD k 0 ∧ ws.getD k 0 ≤ 128 := fun k => by
         rw [List.getD_eq_getElem?_getD]
         cases hk : ws[k]? with
         | none => simp
         | some x => exact h ws hws x (List.mem_of_getElem? hk)
       split
       · exact leafW_bd E op w a b
       · exact joinW_bd op w a b _ _ _ (hb 0) (hb 1)
   · omega
theorem widL_bd (E : Env) : ∀ (l : List Tm) (ws : List Int), widL E l = some ws → ∀ x ∈ ws, 0 ≤ x ∧ x ≤ 128
 | [], ws, h, x, hx => by
   unfold widL at h; injection h with h; subst h; cases hx
 | t :: r, ws, h, x, hx => by
   unfold widL at h
   split at h
   · cases h
   · split at h
     · cases h
     · rename_i vs hvs
       injection h with h; subst h
       rcases List.mem_cons.1 hx with rfl | hx
       · exact widT_bd E t
       · exact widL_bd E r vs hvs x hx
end
theorem widL_snoc {E : Env} : ∀ {l : List Tm} {ws : List Int} (t : Tm), widL E l = some ws → widT E t ≠ 0 → widL E (l ++ [t]) = some (ws ++ [widT E t])
 | [], ws, t, h, ht => by
   unfold widL at h; injection h with h; subst h
   simp [widL, ht]
 | u :: r, ws, t, h, ht => by
   unfold widL at h
   split at h
   · cases h
   · rename_i hu
     split at h
     · cases h
     · rename_i vs hvs
       injection h with h; subst h
       simp only [List.cons_append]
       unfold widL
       rw [if_neg hu, widL_snoc t hvs ht]
theorem widL_len {E : Env} : ∀ {l : List Tm} {ws : List Int}, widL E l = some ws → ws.length = l.length
 | [], ws, h => by unfold widL at h; injection h with h; subst h; rfl
 | u :: r, ws, h => by
   unfold widL at h
   split at h
   · cases h
   · split at h
     · cases h
     · rename_i vs hvs
       injection h with h; subst h
       simp [widL_len hvs]
theorem widL_zero {E : Env} : ∀ {l : List Tm} {t : Tm}, t ∈ l → widT E t = 0 → widL E l = none
 | u :: r, t, h, ht => by
   unfold widL
   rcases List.mem_cons.1 h with rfl | h
   · rw [if_pos ht]
   · split
     · rfl
     · rw [widL_zero h ht]
theorem kids_zero {op : Int} (h : kidsI op = 0) : 20 ≤ op ∧ op ≤ 25 := by
 unfold kidsI at h
 repeat' split at h
 all_goals first | omega | (simp at h)
theorem kids_le {op : Int} : kidsI op ≤ 3 := by
 unfold kidsI
 repeat' split
 all_goals omega
end Go.Proofs.YtdipnhghdajplaaGreatDoor
namespace Go.Proofs.YtdipnhghdajplaaGreatDoor
open Go.RowKit
def hi (v : Int) : Int := v / 18446744073709551616 % 18446744073709551616
def lo (v : Int) : Int := v % 18446744073709551616
abbrev wv (v : Int) : Value := .agg #[.int .u64 (hi v), .int .u64 (lo v)]
abbrev bv (W v : Int) : Value := .agg #[.int .i64 W, .int .u64 (hi v), .int .u64 (lo v)]
@[simp] theorem size_set (w : World) (a : Addr) (v : Value) : (w.setCell a v).heap.size = w.heap.size := by simp [World.setCell]
def Word (x : Int) : Prop := 0 ≤ x ∧ x < 18446744073709551616
theorem hi_word (v : Int) : Word (hi v) := by unfold Word hi; omega
theorem lo_word (v : Int) : Word (lo v) := by unfold Word lo; omega
theorem hilo_mod (v : Int) : hi v * 18446744073709551616 + lo v = v % 340282366920938463463374607431768211456 := by unfold hi lo; omega
theorem hi_mod (v : Int) : hi (v % 340282366920938463463374607431768211456) = hi v := by unfold hi; omega
theorem lo_mod (v : Int) : lo (v % 340282366920938463463374607431768211456) = lo v := by unfold lo; omega
theorem hi_congr {a b : Int} (h : a % 340282366920938463463374607431768211456 = b % 340282366920938463463374607431768211456) : hi a = hi b := by
 rw [← hi_mod a, h, hi_mod]
theorem lo_congr {a b : Int} (h : a % 340282366920938463463374607431768211456 = b % 340282366920938463463374607431768211456) : lo a = lo b := by
 rw [← lo_mod a, h, lo_mod]
theorem eq_of_hilo {a b : Int} (h : hi a = hi b) (l : lo a = lo b) : a % 340282366920938463463374607431768211456 = b % 340282366920938463463374607431768211456 := by
 rw [← hilo_mod, ← hilo_mod, h, l]
theorem hi_small (v : Int) (h0 : 0 ≤ v) (h1 : v < 340282366920938463463374607431768211456) : hi v = v / 18446744073709551616 := by unfold hi; omega
theorem hi_not (a : Int) : hi (-1 - a) = 18446744073709551615 - hi a := by unfold hi; omega
theorem lo_not (a : Int) : lo (-1 - a) = 18446744073709551615 - lo a := by unfold lo; omega
theorem bits_not (x : Int) (h : Word x) : bits .xor .u64 IntKind.u64.max x = 18446744073709551615 - x := by
 obtain ⟨h0, h1⟩ := h
 have e : IntKind.u64.max = 18446744073709551615 := by decide
 rw [e, u64_xor _ _ (by decide) (by decide) h0 h1]
 obtain ⟨n, rfl⟩ := Int.eq_ofNat_of_zero_le h0
 have hn : n < 2 ^ 64 := by omega
 have k : (18446744073709551615 : Int).toNat ^^^ ((n : Nat) : Int).toNat = 2 ^ 64 - 1 - n := by
   rw [Int.toNat_natCast]
   show (2 ^ 64 - 1) ^^^ n = _
   apply Nat.eq_of_testBit_eq
   intro i
   rw [Nat.testBit_xor, Nat.testBit_two_pow_sub_one, Nat.sub_sub, Nat.add_comm 1 n, Nat.testBit_two_pow_sub_succ hn]
   by_cases hi : i < 64
   · simp [hi]
   · have : n.testBit i = false := Nat.testBit_lt_two_pow (Nat.lt_of_lt_of_le hn (Nat.pow_le_pow_right (by decide) (by omega)))
     simp [hi, this]
 rw [k]; omega
def nat128 (a : Int) : Nat := (a % 340282366920938463463374607431768211456).toNat
def landI (a b : Int) : Int := ((nat128 a &&& nat128 b : Nat) : Int)
def lorI (a b : Int) : Int := ((nat128 a ||| nat128 b : Nat) : Int)
theorem nat128_lt (a : Int) : nat128 a < 2 ^ 128 := by unfold nat128; omega
theorem nat128_eq (a : Int) : ((nat128 a : Nat) : Int) = a % 340282366920938463463374607431768211456 := by unfold nat128; omega
theorem nat128_nat (n : Nat) (h : n < 2 ^ 128) : nat128 (n : Int) = n := by unfold nat128; omega
theorem hi_nat (a : Int) : hi a = ((nat128 a / 2 ^ 64 : Nat) : Int) := by
 unfold nat128 hi; omega
theorem lo_nat (a : Int) : lo a = ((nat128 a % 2 ^ 64 : Nat) : Int) := by
 unfold nat128 lo; omega
theorem hi_and (a b : Int) : bits .and .u64 (hi a) (hi b) = hi (landI a b) := by
 obtain ⟨h0, h1⟩ := hi_word a; obtain ⟨k0, k1⟩ := hi_word b
 rw [u64_and _ _ h0 h1 k0 k1, hi_nat a, hi_nat b, hi_nat (landI a b), Int.toNat_natCast, Int.toNat_natCast]
 unfold landI
 rw [nat128_nat _ (Nat.and_lt_two_pow _ (nat128_lt b)), Nat.and_div_two_pow]
theorem lo_and (a b : Int) : bits .and .u64 (lo a) (lo b) = lo (landI a b) := by
 obtain ⟨h0, h1⟩ := lo_word a; obtain ⟨k0, k1⟩ := lo_word b
 rw [u64_and _ _ h0 h1 k0 k1, lo_nat a, lo_nat b, lo_nat (landI a b), Int.toNat_natCast, Int.toNat_natCast]
 unfold landI
 rw [nat128_nat _ (Nat.and_lt_two_pow _ (nat128_lt b)), Nat.and_mod_two_pow]
theorem hi_or (a b : Int) : bits .or .u64 (hi a) (hi b) = hi (lorI a b) := by
 obtain ⟨h0, h1⟩ := hi_word a; obtain ⟨k0, k1⟩ := hi_word b
 rw [u64_or _ _ h0 h1 k0 k1, hi_nat a, hi_nat b, hi_nat (lorI a b), Int.toNat_natCast, Int.toNat_natCast]
 unfold lorI
 rw [nat128_nat _ (Nat.or_lt_two_pow (nat128_lt a) (nat128_lt b)), Nat.or_div_two_pow]
theorem lo_or (a b : Int) : bits .or .u64 (lo a) (lo b) = lo (lorI a b) := by
 obtain ⟨h0, h1⟩ := lo_word a; obtain ⟨k0, k1⟩ := lo_word b
 rw [u64_or _ _ h0 h1 k0 k1, lo_nat a, lo_nat b, lo_nat (lorI a b), Int.toNat_natCast, Int.toNat_natCast]
 unfold lorI
 rw [nat128_nat _ (Nat.or_lt_two_pow (nat128_lt a) (nat128_lt b)), Nat.or_mod_two_pow]
def negB (a : Int) : Bool := decide (9223372036854775808 ≤ hi a)
theorem negB_of_div (a : Int) : (hi a / 9223372036854775808 != 0) = negB a := by
 obtain ⟨h0, h1⟩ := hi_word a
 unfold negB
 by_cases h : 9223372036854775808 ≤ hi a
 · rw [decide_eq_true h, bne_iff_ne]; omega
 · rw [decide_eq_false h, bne_eq_false_iff_eq]; omega
theorem or_join (x y : Int) (k : Nat) (hx : Word x) (hy : Word y) (hm : x % 2 ^ k = 0) (hl : y < 2 ^ k) : bits .or .u64 x y = x + y := by
 obtain ⟨h0, h1⟩ := hx; obtain ⟨k0, k1⟩ := hy
 rw [u64_or _ _ h0 h1 k0 k1]
 obtain ⟨n, rfl⟩ := Int.eq_ofNat_of_zero_le h0
 obtain ⟨m, rfl⟩ := Int.eq_ofNat_of_zero_le k0
 have e : ((2 ^ k : Nat) : Int) = (2 : Int) ^ k := by simp
 rw [Int.toNat_natCast, Int.toNat_natCast, nat_join k n m (by rw [← e] at hm; omega) (by rw [← e] at hl; omega)]
 omega
theorem pow_split (n : Nat) (h : n ≤ 64) : (2 : Int) ^ n * 2 ^ (64 - n) = 18446744073709551616 := by
 rw [← Int.pow_add, Nat.add_sub_cancel' h]; rfl
theorem emod_mul_l (x P m : Int) : x % m * P % m = x * P % m := by
 rw [Int.mul_emod, Int.emod_emod_of_dvd _ (Int.dvd_refl _), ← Int.mul_emod]
theorem pow_pos' (n : Nat) : (0 : Int) < 2 ^ n := Int.pow_pos (by decide)
theorem mul_hi (a P Q : Int) (hP : 0 < P) (hQ : 0 < Q) (hPQ : P * Q = 18446744073709551616) :
   hi (a * P) = hi a * P % 18446744073709551616 + lo a / Q ∧ lo (a * P) = lo a * P % 18446744073709551616 := by
 have hl0 := (lo_word a).1
 have hl1 := (lo_word a).2
 have hb : lo a / Q < P := Int.ediv_lt_of_lt_mul hQ (by rw [hPQ]; exact hl1)
 have hb0 : 0 ≤ lo a / Q := Int.ediv_nonneg hl0 (Int.le_of_lt hQ)
 have hdec : a = (a / 18446744073709551616) * 18446744073709551616 + lo a := by unfold lo; omega
 have h1 : a * P / 18446744073709551616 = (a / 18446744073709551616) * P + lo a / Q := by
   have e : a * P / 18446744073709551616 = a / Q := by
     rw [← hPQ, Int.mul_comm P Q]; exact Int.mul_ediv_mul_of_pos_left _ _ hP
   rw [e]
   have e2 : a = lo a + (a / 18446744073709551616 * P) * Q := by
     rw [Int.mul_assoc, hPQ]; omega
   calc a / Q = (lo a + (a / 18446744073709551616 * P) * Q) / Q := by rw [← e2]
     _ = lo a / Q + a / 18446744073709551616 * P := Int.add_mul_ediv_right _ _ (by omega)
     _ = _ := by omega
 constructor
 · have hm : (a / 18446744073709551616 * P) % 18446744073709551616 = hi a * P % 18446744073709551616 := by
     unfold hi; rw [emod_mul_l]
   have hdiv : (hi a * P % 18446744073709551616) % P = 0 := by
     rw [Int.emod_emod_of_dvd _ ⟨Q, hPQ.symm⟩]; exact Int.mul_emod_left _ _
   have hle : hi a * P % 18446744073709551616 + P ≤ 18446744073709551616 := by
     have hx := Int.emod_lt_of_pos (hi a * P) (by decide : (0 : Int) < 18446744073709551616)
     obtain ⟨c, hc⟩ := Int.dvd_of_emod_eq_zero hdiv
     rw [hc] at hx ⊢
     rw [← hPQ] at hx ⊢
     have : c < Q := Int.lt_of_mul_lt_mul_left hx (Int.le_of_lt hP)
     calc P * c + P = P * (c + 1) := by rw [Int.mul_add, Int.mul_one]
       _ ≤ P * Q := Int.mul_le_mul_of_nonneg_left (by omega) (Int.le_of_lt hP)
   have h0 := Int.emod_nonneg (hi a * P) (by decide : (18446744073709551616 : Int) ≠ 0)
   show a * P / 18446744073709551616 % 18446744073709551616 = _
   rw [h1, Int.add_emod, hm]
   rw [Int.emod_eq_of_lt (a := lo a / Q) hb0 (by omega)]
   exact Int.emod_eq_of_lt (by omega) (by omega)
 · show a * P % 18446744073709551616 = _
   unfold lo; rw [emod_mul_l]
def shrI (a : Int) (n : Nat) : Int := a % 340282366920938463463374607431768211456 / 2 ^ n
theorem div_words (a P Q : Int) (hP : 0 < P) (hQ : 0 < Q) (hPQ : P * Q = 18446744073709551616) :
   hi (a % 340282366920938463463374607431768211456 / P) = hi a / P ∧ lo (a % 340282366920938463463374607431768211456 / P) = lo a / P + hi a * Q % 18446744073709551616 := by
 obtain ⟨a0, a1⟩ := hi_word a; obtain ⟨b0, b1⟩ := lo_word a
 have hb : lo a / P < Q := Int.ediv_lt_of_lt_mul hP (by rw [Int.mul_comm, hPQ]; exact b1)
 have hb0 : 0 ≤ lo a / P := Int.ediv_nonneg b0 (Int.le_of_lt hP)
 have e : a % 340282366920938463463374607431768211456 / P = hi a * Q + lo a / P := by
   rw [← hilo_mod a]
   have : hi a * 18446744073709551616 + lo a = lo a + (hi a * Q) * P := by rw [Int.mul_assoc, Int.mul_comm Q P, hPQ]; omega
   rw [this, Int.add_mul_ediv_right _ _ (by omega)]; omega
 have hdiv : (hi a * Q % 18446744073709551616) % Q = 0 := by
   rw [Int.emod_emod_of_dvd _ ⟨P, by rw [Int.mul_comm]; exact hPQ.symm⟩]; exact Int.mul_emod_left _ _
 have hle : hi a * Q % 18446744073709551616 + Q ≤ 18446744073709551616 := by
   have hx := Int.emod_lt_of_pos (hi a * Q) (by decide : (0 : Int) < 18446744073709551616)
   obtain ⟨c, hc⟩ := Int.dvd_of_emod_eq_zero hdiv
   rw [hc] at hx ⊢
   rw [← hPQ, Int.mul_comm P Q] at hx ⊢
   have : c < P := Int.lt_of_mul_lt_mul_left hx (Int.le_of_lt hQ)
   calc Q * c + Q = Q * (c + 1) := by rw [Int.mul_add, Int.mul_one]
     _ ≤ Q * P := Int.mul_le_mul_of_nonneg_left (by omega) (Int.le_of_lt hQ)
 have h0 := Int.emod_nonneg (hi a * Q) (by decide : (18446744073709551616 : Int) ≠ 0)
 constructor
 · unfold hi at *
   rw [e]
   have e2 : (a / 18446744073709551616 % 18446744073709551616 * Q + lo a / P) / 18446744073709551616 = a / 18446744073709551616 % 18446744073709551616 / P := by
     have hq : (18446744073709551616 : Int) = Q * P := by rw [Int.mul_comm]; exact hPQ.symm
     have e3 : (a / 18446744073709551616 % 18446744073709551616 * Q + lo a / P) / (Q * P) = (a / 18446744073709551616 % 18446744073709551616 * Q + lo a / P) / Q / P := by
       rw [Int.ediv_ediv_of_nonneg (Int.le_of_lt hQ)]
     have e4 : (a / 18446744073709551616 % 18446744073709551616 * Q + lo a / P) / Q = a / 18446744073709551616 % 18446744073709551616 := by
       rw [Int.add_comm, Int.add_mul_ediv_right _ _ (by omega), Int.ediv_eq_zero_of_lt hb0 hb]; omega
     calc _ = (a / 18446744073709551616 % 18446744073709551616 * Q + lo a / P) / (Q * P) := by rw [← hq]
       _ = _ := by rw [e3, e4]
   rw [e2]
   apply Int.emod_eq_of_lt (Int.ediv_nonneg a0 (Int.le_of_lt hP))
   exact Int.lt_of_le_of_lt (Int.ediv_le_self _ a0) a1
 · show (a % 340282366920938463463374607431768211456 / P) % 18446744073709551616 = _
   rw [e, Int.add_emod, Int.emod_eq_of_lt (a := lo a / P) hb0 (by omega)]
   rw [Int.emod_eq_of_lt (by omega) (by omega)]; omega
theorem word_emod (x : Int) : Word (x % 18446744073709551616) := ⟨by omega, by omega⟩
theorem shl_words (a : Int) (n : Nat) (h : n ≤ 64) : bits .or .u64 (hi a * 2 ^ n % 18446744073709551616) (lo a / 2 ^ (64 - n)) = hi (a * 2 ^ n) ∧ lo a * 2 ^ n % 18446744073709551616 = lo (a * 2 ^ n) := by
 have hP := pow_pos' n
 have hQ := pow_pos' (64 - n)
 have hPQ := pow_split n h
 obtain ⟨h1, h2⟩ := mul_hi a _ _ hP hQ hPQ
 obtain ⟨b0, b1⟩ := lo_word a
 refine ⟨?_, h2.symm⟩
 rw [h1]
 refine or_join _ _ n (word_emod _) ⟨Int.ediv_nonneg b0 (Int.le_of_lt hQ), Int.lt_of_le_of_lt (Int.ediv_le_self _ b0) b1⟩ ?_ (Int.ediv_lt_of_lt_mul hQ (by rw [hPQ]; exact b1))
 rw [Int.emod_emod_of_dvd _ ⟨_, hPQ.symm⟩]; exact Int.mul_emod_left _ _
theorem shr_words (a : Int) (n : Nat) (h : n ≤ 64) : hi a / 2 ^ n = hi (shrI a n) ∧ bits .or .u64 (lo a / 2 ^ n) (hi a * 2 ^ (64 - n) % 18446744073709551616) = lo (shrI a n) := by
 have hP := pow_pos' n
 have hQ := pow_pos' (64 - n)
 have hPQ := pow_split n h
 obtain ⟨h1, h2⟩ := div_words a _ _ hP hQ hPQ
 obtain ⟨b0, b1⟩ := lo_word a
 refine ⟨h1.symm, ?_⟩
 unfold shrI
 rw [h2, u64_or _ _ (Int.ediv_nonneg b0 (Int.le_of_lt hP)) (Int.lt_of_le_of_lt (Int.ediv_le_self _ b0) b1) (word_emod _).1 (word_emod _).2, Nat.or_comm, ← u64_or _ _ (word_emod _).1 (word_emod _).2 (Int.ediv_nonneg b0 (Int.le_of_lt hP)) (Int.lt_of_le_of_lt (Int.ediv_le_self _ b0) b1)]
 rw [or_join _ _ (64 - n) (word_emod _) ⟨Int.ediv_nonneg b0 (Int.le_of_lt hP), Int.lt_of_le_of_lt (Int.ediv_le_self _ b0) b1⟩ ?_ (Int.ediv_lt_of_lt_mul hP (by rw [Int.mul_comm, hPQ]; exact b1)), Int.add_comm]
 rw [Int.emod_emod_of_dvd _ ⟨2 ^ n, by rw [Int.mul_comm]; exact hPQ.symm⟩]; exact Int.mul_emod_left _ _
theorem pow64 (m : Nat) : (2 : Int) ^ (m + 64) = 2 ^ m * 18446744073709551616 := by rw [Int.pow_add]; rfl
theorem shl_big (a : Int) (m : Nat) : hi (a * 2 ^ (m + 64)) = lo a * 2 ^ m % 18446744073709551616 ∧ lo (a * 2 ^ (m + 64)) = 0 := by
 rw [pow64, ← Int.mul_assoc]
 constructor
 · unfold hi lo; rw [Int.mul_ediv_cancel _ (by decide), emod_mul_l]
 · unfold lo; exact Int.mul_emod_left _ _
theorem shr_big (a : Int) (m : Nat) : hi (shrI a (m + 64)) = 0 ∧ lo (shrI a (m + 64)) = hi a / 2 ^ m := by
 obtain ⟨a0, a1⟩ := hi_word a; obtain ⟨b0, b1⟩ := lo_word a
 have e : shrI a (m + 64) = hi a / 2 ^ m := by
   unfold shrI
   rw [pow64, Int.mul_comm, ← Int.ediv_ediv_of_nonneg (by decide), ← hilo_mod a]
   congr 1; omega
 have h0 : 0 ≤ hi a / 2 ^ m := Int.ediv_nonneg a0 (Int.le_of_lt (pow_pos' m))
 have h1 : hi a / 2 ^ m < 18446744073709551616 := Int.lt_of_le_of_lt (Int.ediv_le_self _ a0) a1
 rw [e]
 generalize hi a / 2 ^ m = x at *
 unfold hi lo; omega
theorem shrI_ones (n : Nat) (h : n ≤ 128) : shrI (-1) (128 - n) = 2 ^ n - 1 := by
 unfold shrI
 have e : (-1 : Int) % 340282366920938463463374607431768211456 = 340282366920938463463374607431768211455 := by decide
 have hs : (2 : Int) ^ n * 2 ^ (128 - n) = 340282366920938463463374607431768211456 := by
   rw [← Int.pow_add, Nat.add_sub_cancel' h]; rfl
 have hQ := pow_pos' (128 - n)
 rw [e]
 have : (340282366920938463463374607431768211455 : Int) = (2 ^ (128 - n) - 1) + (2 ^ n - 1) * 2 ^ (128 - n) := by
   rw [Int.sub_mul, hs]; omega
 rw [this, Int.add_mul_ediv_right _ _ (by omega), Int.ediv_eq_zero_of_lt (by omega) (by omega)]; omega
def cutI (n : Nat) (v : Int) : Int := v % 2 ^ n
theorem two_pow_cast (n : Nat) : ((2 ^ n : Nat) : Int) = (2 : Int) ^ n := by simp
theorem pow_le128 (n : Nat) (h : n ≤ 128) : (2 : Int) ^ n ≤ 340282366920938463463374607431768211456 := by
 have e : (2 ^ n : Nat) ≤ 2 ^ 128 := Nat.pow_le_pow_right (by decide) h
 have := two_pow_cast n
 omega
theorem pow_dvd128 (n : Nat) (h : n ≤ 128) : (2 : Int) ^ n ∣ 340282366920938463463374607431768211456 :=
 ⟨2 ^ (128 - n), by rw [← Int.pow_add, Nat.add_sub_cancel' h]; rfl⟩
theorem cutI_mod (n : Nat) (h : n ≤ 128) (v : Int) : cutI n (v % 340282366920938463463374607431768211456) = cutI n v := Int.emod_emod_of_dvd _ (pow_dvd128 n h)
theorem cutI_lt (n : Nat) (v : Int) : 0 ≤ cutI n v ∧ cutI n v < 2 ^ n := ⟨Int.emod_nonneg _ (by have := pow_pos' n; omega), Int.emod_lt_of_pos _ (pow_pos' n)⟩
theorem cutI_small (n : Nat) (v : Int) (h0 : 0 ≤ v) (h1 : v < 2 ^ n) : cutI n v = v := Int.emod_eq_of_lt h0 h1
theorem mod128_small (v : Int) (h0 : 0 ≤ v) (h1 : v < 340282366920938463463374607431768211456) : v % 340282366920938463463374607431768211456 = v := Int.emod_eq_of_lt h0 h1
theorem landI_ones (n : Nat) (h : n ≤ 128) (v : Int) : landI v (2 ^ n - 1) = cutI n v := by
 have e : nat128 (2 ^ n - 1) = 2 ^ n - 1 := by
   have h1 := pow_pos' n; have h2 := pow_le128 n h; have h3 := two_pow_cast n
   unfold nat128; rw [mod128_small _ (by omega) (by omega)]; omega
 unfold landI
 rw [e, Nat.and_two_pow_sub_one_eq_mod, Int.natCast_emod, nat128_eq, two_pow_cast, ← cutI_mod n h]
 rfl
def Norm (W v : Int) : Prop := 1 ≤ W ∧ W ≤ 128 ∧ 0 ≤ v ∧ v < 2 ^ W.toNat
def normB (W v : Int) : Bool := decide (1 ≤ W ∧ W ≤ 128 ∧ v < 2 ^ W.toNat)
theorem Norm.lt128 {W v : Int} (h : Norm W v) : v < 340282366920938463463374607431768211456 := by
 obtain ⟨h1, h2, h3, h4⟩ := h
 have := pow_le128 W.toNat (by omega)
 omega
theorem norm_to {W v : Int} (h : Norm W v) : normB W v = true := by
 unfold normB; rw [decide_eq_true_iff]; exact ⟨h.1, h.2.1, h.2.2.2⟩
theorem hilo_inj {a b : Int} (a0 : 0 ≤ a) (a1 : a < 340282366920938463463374607431768211456) (b0 : 0 ≤ b) (b1 : b < 340282366920938463463374607431768211456) (h : hi a = hi b) (l : lo a = lo b) : a = b := by
 have := eq_of_hilo h l
 rwa [mod128_small _ a0 a1, mod128_small _ b0 b1] at this
theorem normB_eq (W v : Int) (h0 : 1 ≤ W) (h1 : W ≤ 128) (v0 : 0 ≤ v) (v1 : v < 340282366920938463463374607431768211456) :
   (hi v == hi (cutI W.toNat v) && lo v == lo (cutI W.toNat v)) = normB W v := by
 have hc := cutI_lt W.toNat v
 have hp := pow_le128 W.toNat (by omega)
 unfold normB
 by_cases h : v < 2 ^ W.toNat
 · rw [cutI_small _ _ v0 h]; simp [h0, h1, h]
 · have : ¬ (hi v = hi (cutI W.toNat v) ∧ lo v = lo (cutI W.toNat v)) := by
     rintro ⟨e1, e2⟩
     have := hilo_inj v0 v1 hc.1 (by omega) e1 e2
     omega
   rw [decide_eq_false (fun k => h k.2.2)]
   rw [Bool.and_eq_false_iff]
   by_cases e1 : hi v = hi (cutI W.toNat v)
   · right; rw [beq_eq_false_iff_ne]; exact fun e2 => this ⟨e1, e2⟩
   · left; rw [beq_eq_false_iff_ne]; exact e1
def sgnI (W v : Int) : Int := if v < 2 ^ (W.toNat - 1) then v else v - 2 ^ W.toNat
theorem pow_pred (n : Nat) (h : 1 ≤ n) : (2 : Int) ^ n = 2 ^ (n - 1) * 2 := by
 obtain ⟨m, rfl⟩ : ∃ m, n = m + 1 := ⟨n - 1, by omega⟩
 rw [Nat.add_sub_cancel, Int.pow_succ]
theorem negB_shl (W v : Int) (h : Norm W v) : negB (v * 2 ^ (128 - W).toNat) = decide (¬ v < 2 ^ (W.toNat - 1)) := by
 obtain ⟨h1, h2, h3, h4⟩ := h
 have e : (128 - W).toNat = 128 - W.toNat := by omega
 have hs : (2 : Int) ^ W.toNat * 2 ^ (128 - W.toNat) = 340282366920938463463374607431768211456 := by
   rw [← Int.pow_add, Nat.add_sub_cancel' (by omega)]; rfl
 have hs2 : (2 : Int) ^ (W.toNat - 1) * 2 ^ (128 - W.toNat) = 170141183460469231731687303715884105728 := by
   have := pow_pred W.toNat (by omega)
   rw [this, Int.mul_right_comm] at hs
   omega
 have hQ := pow_pos' (128 - W.toNat)
 rw [e]
 have hlt : v * 2 ^ (128 - W.toNat) < 340282366920938463463374607431768211456 := by
   rw [← hs]; exact Int.mul_lt_mul_of_pos_right h4 hQ
 have hnn : 0 ≤ v * 2 ^ (128 - W.toNat) := Int.mul_nonneg h3 (Int.le_of_lt hQ)
 have hhi : hi (v * 2 ^ (128 - W.toNat)) = v * 2 ^ (128 - W.toNat) / 18446744073709551616 := hi_small _ hnn hlt
 unfold negB
 rw [hhi]
 apply decide_eq_decide.2
 constructor
 · intro k hlt2
   have := Int.mul_lt_mul_of_pos_right hlt2 hQ
   rw [hs2] at this
   omega
 · intro k
   have : 2 ^ (W.toNat - 1) ≤ v := by omega
   have := Int.mul_le_mul_of_nonneg_right this (Int.le_of_lt hQ)
   rw [hs2] at this
   omega
theorem lorI_high (n : Nat) (h : n ≤ 128) (v : Int) (h0 : 0 ≤ v) (h1 : v < 2 ^ n) : lorI v (-1 - (2 ^ n - 1)) = v - 2 ^ n + 340282366920938463463374607431768211456 := by
 have hp := pow_le128 n h; have hq := pow_pos' n; have hc := two_pow_cast n
 have e1 : nat128 v = v.toNat := by unfold nat128; rw [mod128_small _ h0 (by omega)]
 have e2 : (nat128 (-1 - (2 ^ n - 1)) : Int) = 340282366920938463463374607431768211456 - 2 ^ n := by
   rw [nat128_eq]; omega
 have hd : nat128 (-1 - (2 ^ n - 1)) % 2 ^ n = 0 := by
   have : ((nat128 (-1 - (2 ^ n - 1)) % 2 ^ n : Nat) : Int) = 0 := by
     rw [Int.natCast_emod, e2, hc]
     exact Int.emod_eq_zero_of_dvd (Int.dvd_sub (pow_dvd128 n h) (Int.dvd_refl _))
   omega
 unfold lorI
 rw [Nat.or_comm, nat_join n _ _ hd (by rw [e1]; omega), e1]
 omega
theorem hi_sgn (W v : Int) (h : Norm W v) (k : ¬ v < 2 ^ (W.toNat - 1)) : hi (lorI v (-1 - (2 ^ W.toNat - 1))) = hi (sgnI W v) ∧ lo (lorI v (-1 - (2 ^ W.toNat - 1))) = lo (sgnI W v) := by
 obtain ⟨h1, h2, h3, h4⟩ := h
 rw [lorI_high _ (by omega) _ h3 h4]
 unfold sgnI
 rw [if_neg k]
 exact ⟨hi_congr (by omega), lo_congr (by omega)⟩
theorem hi_int (n : Int) (h0 : -9223372036854775808 ≤ n) (h1 : n ≤ 9223372036854775807) : hi n = n / 9223372036854775808 % 18446744073709551616 ∧ lo n = n % 18446744073709551616 := by
 unfold hi lo; omega
theorem wrap64_bd (s : Int) : -9223372036854775808 ≤ wrap64 s ∧ wrap64 s ≤ 9223372036854775807 := by unfold wrap64; omega
theorem wrap_in64 (s : Int) (h0 : -9223372036854775808 ≤ s) (h1 : s ≤ 9223372036854775807) : wrap64 (lo s) = s := by unfold wrap64 lo; omega
theorem sgnI_bd {W v : Int} (h : Norm W v) : -170141183460469231731687303715884105728 ≤ sgnI W v ∧ sgnI W v < 170141183460469231731687303715884105728 := by
 obtain ⟨h1, h2, h3, h4⟩ := h
 have hp := pow_pred W.toNat (by omega)
 have hq := pow_le128 W.toNat (by omega)
 unfold sgnI; split <;> omega
end Go.Proofs.YtdipnhghdajplaaGreatDoor
