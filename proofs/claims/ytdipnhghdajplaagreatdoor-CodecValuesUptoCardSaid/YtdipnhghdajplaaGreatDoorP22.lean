/- Patterns: how many bits their pieces have, as plain functions. The value that encoded bits make, of the program. Names of registers: are they there? A form's effects: are they right? What they ask, and as many terms as widths, each of its width. A place is added to a set; the value that encoded bits make: of the program. The bits at some places, if all of them are literals: of the program. -/
import Derived.Test.YtdipnhghdajplaaGreatDoorP18
import Derived.Test.YtdipnhghdajplaaGreatDoorP21
import Derived.Test.YtdipnhghdajplaaGreatDoorP07
import Derived.Deep.QuietTactic
import Derived.RegionTactic
import Derived.StillTailTactics
import Derived.Laws.BitsAllLaws
namespace Go.Proofs.YtdipnhghdajplaaGreatDoor
open Go.RowKit
set_option linter.unusedSimpArgs false
set_option linter.unusedVariables false

/-- A literal's letters. -/
def litC (c : UInt8) : Bool := c == 48 || c == 49 || c == 120
def litB (s : ByteArray) : Bool := s.data.toList.all litC
/-- The bits of an operand's class. -/
def bitsAt (D : Ds) (args : List Int) (i : Nat) : Int := match args[i]? with
  | none => 0
  | some c => match D.cls[c.toNat]? with
    | none => 0
    | some k => k.bits
/-- How many bits a piece has; 0: it isn't right. -/
def pcN (D : Ds) (args : List Int) (p : Pc) : Nat :=
  if p.arg = -1 then (if litB p.lit then p.lit.size else 0)
  else if plB p.arg args.length && (decide (0 ≤ p.lo) && (decide (p.lo ≤ p.hi) && decide (p.hi < bitsAt D args p.arg.toNat))) then (p.hi - p.lo + 1).toNat else 0
/-- The bits of its operand that a piece has. -/
def maskN (p : Pc) : Nat := lowI (p.hi - p.lo + 1).toNat * 2 ^ p.lo.toNat
/-- A round over the pieces: how many bits till now, which bits of each operand. -/
def patF (D : Ds) (args : List Int) (s : Option (Nat × List Nat)) (p : Pc) : Option (Nat × List Nat) := match s with
  | none => none
  | some (b, seen) => if pcN D args p = 0 then none else if p.arg = -1 then some (b + pcN D args p, seen)
    else if seen.getD p.arg.toNat 0 &&& maskN p = 0 then some (b + pcN D args p, seen.set p.arg.toNat (seen.getD p.arg.toNat 0 ||| maskN p)) else none
def pat0 : Option (Nat × List Nat) := some (0, [0, 0, 0, 0, 0, 0])
/-- Has each operand all its bits? -/
def fullB (D : Ds) (args : List Int) (seen : List Nat) : Bool := (List.range args.length).all fun i => decide (seen.getD i 0 = lowI (bitsAt D args i).toNat)
def opsB (D : Ds) (args : List Int) : Bool := decide (args.length ≤ 6) && args.all (clsAtB D)
/-- How many bits a form has; 0: its pattern isn't right. -/
def patN (D : Ds) (args : List Int) (pcs : List Pc) : Nat := if opsB D args then match pcs.foldl (patF D args) pat0 with
    | none => 0
    | some (b, seen) => if fullB D args seen && (decide (b % 8 = 0) && decide (b ≤ 120)) then b else 0
  else 0
/-- Literals of a size that machines have. -/
structure Light (pcs : List Pc) : Prop where
  many : pcs.length ≤ 1048576
  lits : ∀ p ∈ pcs, p.lit.size ≤ 1048576
theorem patF_none (D : Ds) (args : List Int) : ∀ l : List Pc, l.foldl (patF D args) none = none
  | [] => rfl
  | p :: r => patF_none D args r
theorem patF_take {D : Ds} {args : List Int} {pcs : List Pc} {j : Nat} (h : j < pcs.length) (s : Option (Nat × List Nat)) : (pcs.take (j + 1)).foldl (patF D args) s = patF D args ((pcs.take j).foldl (patF D args) s) pcs[j] := by
  rw [List.take_succ_eq_append_getElem h, List.foldl_append]; rfl
theorem patF_dead {D : Ds} {args : List Int} {pcs : List Pc} {j : Nat} (h : j ≤ pcs.length) {s : Option (Nat × List Nat)} (hn : (pcs.take j).foldl (patF D args) s = none) : pcs.foldl (patF D args) s = none := by
  have := congrArg (fun l => l.foldl (patF D args) s) (List.take_append_drop j pcs)
  simp only [List.foldl_append] at this
  rw [← this, hn, patF_none]
theorem args_at {D : Ds} {args : List Int} (h : args.all (clsAtB D) = true) {i : Nat} (hi : i < args.length) :
    ∃ c : Nat, args[i] = (c : Int) ∧ ∃ hc : c < D.cls.length, clsB D D.cls[c] = true ∧ bitsAt D args i = (D.cls[c]).bits ∧ 1 ≤ (D.cls[c]).bits ∧ (D.cls[c]).bits ≤ 64 := by
  have h1 := List.all_eq_true.1 h _ (List.getElem_mem hi)
  unfold clsAtB at h1
  by_cases h0 : 0 ≤ args[i]
  · rw [if_pos h0] at h1
    cases hc : D.cls[(args[i]).toNat]? with
    | none => rw [hc] at h1; cases h1
    | some c =>
      rw [hc] at h1
      obtain ⟨hl, e⟩ := List.getElem?_eq_some_iff.1 hc
      refine ⟨(args[i]).toNat, by omega, hl, by rw [e]; exact h1, ?_, ?_⟩
      · unfold bitsAt; rw [List.getElem?_eq_getElem hi]; dsimp only; rw [hc, e]
      · have h1 : clsB D c = true := h1
        rw [e]
        unfold clsB at h1
        split at h1
        · unfold regB at h1
          split at h1
          · cases h1
          · simp at h1; omega
        · split at h1
          · unfold numB at h1; simp at h1; omega
          · split at h1
            · unfold numB at h1; simp at h1; omega
            · cases h1
  · rw [if_neg h0] at h1; cases h1
theorem bitsAt_le {D : Ds} {args : List Int} (h : args.all (clsAtB D) = true) (i : Nat) : bitsAt D args i ≤ 64 := by
  by_cases hi : i < args.length
  · obtain ⟨c, _, hc, _, e, _, h2⟩ := args_at h hi
    rw [e]; exact h2
  · unfold bitsAt; rw [List.getElem?_eq_none (by omega)]; simp
theorem low_lt (n : Nat) : lowI n < 2 ^ n := by unfold lowI; have := Nat.two_pow_pos n; omega
/-- What a piece that is right says of its operand. -/
theorem pc_right {D : Ds} {args : List Int} {p : Pc} (h : args.all (clsAtB D) = true) (ha : p.arg ≠ -1) (hn : pcN D args p ≠ 0) :
    ∃ k lo n : Nat, p.arg = (k : Int) ∧ k < args.length ∧ p.lo = (lo : Int) ∧ p.hi = ((lo + n : Nat) : Int) - 1 ∧ n = pcN D args p ∧ 1 ≤ n ∧ ((lo + n : Nat) : Int) ≤ bitsAt D args k ∧ lo + n ≤ 64 ∧ maskN p = lowI n * 2 ^ lo := by
  unfold pcN at hn ⊢
  rw [if_neg ha] at hn ⊢
  split at hn
  · rename_i hc
    rw [if_pos hc]
    simp only [Bool.and_eq_true, decide_eq_true_eq] at hc
    obtain ⟨hp, h1, h2, h3⟩ := hc
    obtain ⟨k, e, hk⟩ := plB_ex hp
    have hb := bitsAt_le h p.arg.toNat
    have ek : p.arg.toNat = k := by omega
    rw [ek] at h3 hb
    refine ⟨k, p.lo.toNat, (p.hi - p.lo + 1).toNat, e, hk, by omega, by omega, rfl, by omega, by omega, by omega, rfl⟩
  · exact absurd rfl hn
theorem mask_lt {p : Pc} {lo n : Nat} (h : maskN p = lowI n * 2 ^ lo) (hl : lo + n ≤ 64) : maskN p < 18446744073709551616 := by
  rw [h]
  have h1 := low_lt n
  have h2 := Nat.two_pow_pos lo
  calc lowI n * 2 ^ lo < 2 ^ n * 2 ^ lo := Nat.mul_lt_mul_of_pos_right h1 h2
    _ = 2 ^ (n + lo) := by rw [Nat.pow_add]
    _ ≤ 2 ^ 64 := Nat.pow_le_pow_right (by decide) (by omega)
    _ = 18446744073709551616 := by decide
/-- What the rounds leave: six numbers of 64 bits; not too many bits. -/
theorem pat_bd {D : Ds} {args : List Int} (h : args.all (clsAtB D) = true) : ∀ (l : List Pc) (b : Nat) (seen : List Nat), seen.length = 6 → (∀ x ∈ seen, x < 18446744073709551616) → (∀ p ∈ l, p.lit.size ≤ 1048576) → ∀ b' seen', l.foldl (patF D args) (some (b, seen)) = some (b', seen') →
    seen'.length = 6 ∧ (∀ x ∈ seen', x < 18446744073709551616) ∧ b' ≤ b + l.length * 1048576
  | [], b, seen, h6, hx, hl, b', seen', he => by
    simp only [List.foldl_nil, Option.some.injEq, Prod.mk.injEq] at he
    obtain ⟨rfl, rfl⟩ := he
    exact ⟨h6, hx, by omega⟩
  | p :: r, b, seen, h6, hx, hl, b', seen', he => by
    rw [List.foldl_cons] at he
    have hp := hl p (List.mem_cons_self)
    have key : ∀ b1 seen1, patF D args (some (b, seen)) p = some (b1, seen1) → seen1.length = 6 ∧ (∀ x ∈ seen1, x < 18446744073709551616) ∧ b1 ≤ b + 1048576 := by
      intro b1 seen1 h1
      unfold patF at h1
      dsimp only at h1
      split at h1
      · cases h1
      · rename_i hn
        split at h1
        · rename_i ha
          simp only [Option.some.injEq, Prod.mk.injEq] at h1
          obtain ⟨rfl, rfl⟩ := h1
          refine ⟨h6, hx, ?_⟩
          unfold pcN; rw [if_pos ha]; split <;> omega
        · rename_i ha
          obtain ⟨k, lo, n, e1, e2, e3, e4, e5, e6, e7, e8, e9⟩ := pc_right h ha hn
          split at h1
          · simp only [Option.some.injEq, Prod.mk.injEq] at h1
            obtain ⟨rfl, rfl⟩ := h1
            refine ⟨by simp [h6], fun x hm => ?_, by omega⟩
            rcases List.mem_or_eq_of_mem_set hm with hm | rfl
            · exact hx x hm
            · refine Nat.or_lt_two_pow (n := 64) ?_ (mask_lt e9 e8)
              rw [List.getD_eq_getElem?_getD]
              cases hg : seen[p.arg.toNat]? with
              | none => simp
              | some y => exact hx y (List.mem_of_getElem? hg)
          · cases h1
    cases hs : patF D args (some (b, seen)) p with
    | none => rw [hs, patF_none] at he; cases he
    | some s1 =>
      obtain ⟨b1, seen1⟩ := s1
      rw [hs] at he
      obtain ⟨k1, k2, k3⟩ := key b1 seen1 hs
      obtain ⟨m1, m2, m3⟩ := pat_bd h r b1 seen1 k1 k2 (fun q hq => hl q (List.mem_cons_of_mem _ hq)) b' seen' he
      refine ⟨m1, m2, ?_⟩
      simp only [List.length_cons]; omega
end Go.Proofs.YtdipnhghdajplaaGreatDoor
namespace Go.Proofs.YtdipnhghdajplaaGreatDoor
open Go.RowKit
set_option linter.unusedSimpArgs false
set_option linter.unusedVariables false

/-- n bits as a signed number. -/
def sgnN (bits n : Nat) : Int := if n < 2 ^ (bits - 1) then (n : Int) else (n : Int) - 2 ^ bits
/-- The value that encoded bits make. -/
def valI (c : Cl) (n : Nat) : Int := if c.kind = 1 then c.plus + (n : Int) else if c.kind = 2 then (n : Int) * 2 ^ c.shift.toNat else sgnN c.bits.toNat n * 2 ^ c.shift.toNat
theorem pow_le_63 {a b : Nat} (h : a + b ≤ 63) : (2 : Int) ^ a * 2 ^ b ≤ 9223372036854775808 := by
  rw [← Int.pow_add]
  have : (2 : Nat) ^ (a + b) ≤ 2 ^ 63 := Nat.pow_le_pow_right (by decide) h
  have e : ((2 : Nat) ^ (a + b) : Int) ≤ ((2 ^ 63 : Nat) : Int) := by exact_mod_cast this
  simpa using e
theorem wrap_in {x : Int} (h1 : -9223372036854775808 ≤ x) (h2 : x < 9223372036854775808) : IntKind.i64.wrap x = x := by
  unfold IntKind.wrap; simp [IntKind.bits, IntKind.signed]; omega
theorem sgn_bd {bits n : Nat} (hb : 1 ≤ bits) (hn : n < 2 ^ bits) : -(2 ^ (bits - 1) : Int) ≤ sgnN bits n ∧ sgnN bits n < 2 ^ (bits - 1) := by
  have e : 2 ^ bits = 2 * 2 ^ (bits - 1) := by rw [← Nat.pow_succ']; congr 1; omega
  have e2 : (2 : Int) ^ bits = 2 * 2 ^ (bits - 1) := by exact_mod_cast e
  unfold sgnN
  have c1 : ((2 ^ (bits - 1) : Nat) : Int) = 2 ^ (bits - 1) := by simp
  generalize hp : (2 : Nat) ^ (bits - 1) = P at *
  generalize hq : (2 : Int) ^ (bits - 1) = Q at *
  rw [e2]
  split <;> omega
theorem sgn_mul {bits n sh : Nat} (hb : 1 ≤ bits) (hn : n < 2 ^ bits) (hs : bits + sh ≤ 64) : -9223372036854775808 ≤ sgnN bits n * 2 ^ sh ∧ sgnN bits n * 2 ^ sh < 9223372036854775808 := by
  obtain ⟨h1, h2⟩ := sgn_bd hb hn
  have h3 := pow_le_63 (a := bits - 1) (b := sh) (by omega)
  have h4 : (0 : Int) < 2 ^ sh := Int.pow_pos (by decide)
  constructor
  · have := Int.mul_le_mul_of_nonneg_right h1 (Int.le_of_lt h4)
    have e : -(2 ^ (bits - 1) : Int) * 2 ^ sh = -((2 ^ (bits - 1) : Int) * 2 ^ sh) := Int.neg_mul _ _
    omega
  · have := Int.mul_lt_mul_of_pos_right h2 h4
    omega
/-- Shifted up, read as signed. -/
theorem sgn_up {bits n : Nat} (hb : 1 ≤ bits) (hb2 : bits ≤ 64) (hn : n < 2 ^ bits) : IntKind.i64.wrap ((n * 2 ^ (64 - bits) : Nat) : Int) = sgnN bits n * 2 ^ (64 - bits) := by
  obtain ⟨h1, h2⟩ := sgn_mul (sh := 64 - bits) hb hn (by omega)
  have e64 : (2 : Int) ^ bits * 2 ^ (64 - bits) = 18446744073709551616 := by rw [← Int.pow_add, show bits + (64 - bits) = 64 by omega]; decide
  have hc : ((n * 2 ^ (64 - bits) : Nat) : Int) = (n : Int) * 2 ^ (64 - bits) := by simp
  rw [hc]
  unfold sgnN at *
  split
  · rename_i h
    rw [if_pos h] at h1 h2
    exact wrap_in h1 h2
  · rename_i h
    rw [if_neg h] at h1 h2
    have e : ((n : Int) - 2 ^ bits) * 2 ^ (64 - bits) = (n : Int) * 2 ^ (64 - bits) - 18446744073709551616 := by rw [Int.sub_mul, e64]
    rw [e] at h1 h2 ⊢
    generalize (n : Int) * 2 ^ (64 - bits) = z at *
    unfold IntKind.wrap; simp [IntKind.bits, IntKind.signed]; omega
theorem up_u64 {bits n : Nat} (hb2 : bits ≤ 64) (hn : n < 2 ^ bits) : IntKind.u64.wrap ((n : Int) * 2 ^ (64 - bits)) = ((n * 2 ^ (64 - bits) : Nat) : Int) := by
  have h : n * 2 ^ (64 - bits) < 2 ^ bits * 2 ^ (64 - bits) := Nat.mul_lt_mul_of_pos_right hn (Nat.two_pow_pos _)
  rw [← Nat.pow_add, show bits + (64 - bits) = 64 by omega] at h
  have hc : ((n : Int) * 2 ^ (64 - bits)) = ((n * 2 ^ (64 - bits) : Nat) : Int) := by simp
  rw [hc]
  generalize n * 2 ^ (64 - bits) = z at *
  simp [IntKind.wrap, IntKind.bits, IntKind.signed]
  omega
set_option maxHeartbeats 3200000 in
theorem valueOf_sgn (nm : ByteArray) (kind file plus : Int) (bits shift : Nat) (A : Option Addr) (l k : Nat) (n : Nat) (h1 : kind ≠ 1) (h2 : kind ≠ 2) (hb : 1 ≤ bits) (hs : bits + shift ≤ 64) (hn : n < 2 ^ bits) (w : World) :
    Calls Tryz.prog 108 #[.agg #[.string nm, .int .i64 kind, .int .i64 file, .int .i64 (bits : Int), .int .i64 (shift : Int), .int .i64 plus, .slice A l k], .int .u64 (n : Int)] w fun e w' => e = .returned (.int .i64 (sgnN bits n * 2 ^ shift)) ∧ Fr w w' := by
  have hu := up_u64 (by omega : bits ≤ 64) hn
  have hsu := sgn_up hb (by omega) hn
  have hm := sgn_mul hb hn hs
  have hwm := wrap_in hm.1 hm.2
  have hd : sgnN bits n * 2 ^ (64 - bits) / 2 ^ (64 - bits) = sgnN bits n := Int.mul_ediv_cancel _ (by have : (0 : Int) < 2 ^ (64 - bits) := Int.pow_pos (by decide); omega)
  have hs0 := sgn_bd hb hn
  have hw3 := wrap_in (x := sgnN bits n) (by have := pow_le_63 (a := bits - 1) (b := 0) (by omega); simp at this; omega) (by have := pow_le_63 (a := bits - 1) (b := 0) (by omega); simp at this; omega)
  obtain ⟨u, hue⟩ : ∃ u, 64 - bits = u := ⟨_, rfl⟩
  rw [hue] at hu hsu hd
  have hbi : (64 : Int) - (bits : Int) = (u : Int) := by omega
  have hul : u ≤ 63 := by omega
  have hsl : shift ≤ 63 := by omega
  have hbl : bits ≤ 64 := by omega
  clear hm hs0 hn hb hs hue
  generalize n * 2 ^ u = y at *
  generalize sgnN bits n = s at *
  have k1 : (kind == 1) = false := by simp [h1]
  have k2 : (kind == 2) = false := by simp [h2]
  clear h1 h2
  go_enter Tryz.func108, Tryz.ntmps108
  go_wp2
  go_quiet (fail)
  go_wp2
  go_ret
  exact ⟨rfl, Fr.drewN (Fr.alloc (Fr.refl w) _) _⟩
theorem conv_n {n : Nat} (h : n < 9223372036854775808) : IntKind.i64.wrap (n : Int) = (n : Int) := wrap_in (by omega) (by omega)
set_option maxHeartbeats 3200000 in
theorem valueOf_uns (nm : ByteArray) (file plus : Int) (bits shift : Nat) (A : Option Addr) (l k : Nat) (n : Nat) (hs : bits + shift ≤ 62) (hn : n < 2 ^ bits) (w : World) :
    Calls Tryz.prog 108 #[.agg #[.string nm, .int .i64 2, .int .i64 file, .int .i64 (bits : Int), .int .i64 (shift : Int), .int .i64 plus, .slice A l k], .int .u64 (n : Int)] w fun e w' => e = .returned (.int .i64 ((n : Int) * 2 ^ shift)) ∧ Fr w w' := by
  have hb : n * 2 ^ shift < 2 ^ bits * 2 ^ shift := Nat.mul_lt_mul_of_pos_right hn (Nat.two_pow_pos _)
  have hb2 : 2 ^ bits * 2 ^ shift ≤ 2 ^ 62 := by rw [← Nat.pow_add]; exact Nat.pow_le_pow_right (by decide) hs
  have hb3 : 2 ^ bits ≤ 2 ^ 62 := Nat.pow_le_pow_right (by decide) (by omega)
  have hc : (n : Int) * 2 ^ shift = ((n * 2 ^ shift : Nat) : Int) := by simp
  have hwn := conv_n (n := n) (by omega)
  have hwm : IntKind.i64.wrap ((n : Int) * 2 ^ shift) = (n : Int) * 2 ^ shift := by rw [hc]; exact conv_n (by omega)
  have hsl : shift ≤ 62 := by omega
  clear hb hb2 hb3 hc hn hs
  go_enter Tryz.func108, Tryz.ntmps108
  go_wp2
  go_ret
  exact ⟨rfl, Fr.alloc (Fr.refl w) _⟩
set_option maxHeartbeats 3200000 in
theorem valueOf_reg (nm : ByteArray) (file bits shift plus : Int) (A : Option Addr) (l k : Nat) (n : Nat) (hp0 : 0 ≤ plus) (hp : plus ≤ 64) (hn : n < 64) (w : World) :
    Calls Tryz.prog 108 #[.agg #[.string nm, .int .i64 1, .int .i64 file, .int .i64 bits, .int .i64 shift, .int .i64 plus, .slice A l k], .int .u64 (n : Int)] w fun e w' => e = .returned (.int .i64 (plus + (n : Int))) ∧ Fr w w' := by
  have hwn := conv_n (n := n) (by omega)
  have hwm : IntKind.i64.wrap (plus + (n : Int)) = plus + (n : Int) := wrap_in (by omega) (by omega)
  go_enter Tryz.func108, Tryz.ntmps108
  go_wp2
  go_ret
  exact ⟨rfl, Fr.alloc (Fr.refl w) _⟩
/-- The value that encoded bits make, of a class that is right. -/
theorem valueOf_any {D : Ds} (c : Cl) (hc : clsB D c = true) (nm : ByteArray) (A : Option Addr) (l k : Nat) (n : Nat) (hn : n < 2 ^ c.bits.toNat) (w : World) :
    Calls Tryz.prog 108 #[.agg #[.string nm, .int .i64 c.kind, .int .i64 c.file, .int .i64 c.bits, .int .i64 c.shift, .int .i64 c.plus, .slice A l k], .int .u64 (n : Int)] w fun e w' => e = .returned (.int .i64 (valI c n)) ∧ Fr w w' := by
  obtain ⟨kind, file, bits, shift, plus, ex⟩ := c
  unfold clsB at hc
  simp only at hn
  by_cases h1 : kind = 1
  · subst h1
    simp only [if_true] at hc
    unfold regB at hc
    split at hc
    · cases hc
    · rename_i f hf
      simp only [Bool.and_eq_true, decide_eq_true_eq] at hc
      obtain ⟨⟨⟨⟨c1, c2⟩, c3⟩, c4⟩, c5⟩ := hc
      have hfb : f.1 ≤ 64 := by
        unfold fileD at hf
        split at hf
        · split at hf
          · split at hf
            · rename_i hb
              injection hf with hf; subst hf
              unfold fileB at hb; simp at hb; omega
            · cases hf
          · cases hf
        · cases hf
      have hp : (1 : Int) ≤ 2 ^ bits.toNat := by have := Int.pow_pos (m := bits.toNat) (show (0 : Int) < 2 by decide); omega
      have hn64 : n < 64 := Nat.lt_of_lt_of_le hn (by
        have : 2 ^ bits.toNat ≤ 2 ^ 6 := Nat.pow_le_pow_right (by decide) (by omega)
        omega)
      have e : valI ⟨1, file, bits, shift, plus, ex⟩ n = plus + (n : Int) := by unfold valI; rw [if_pos rfl]
      rw [e]
      exact valueOf_reg nm file bits shift plus A l k n c4 (by omega) hn64 w
  · rw [if_neg h1] at hc
    have key : ∀ most : Int, most ≤ 64 → numB ⟨kind, file, bits, shift, plus, ex⟩ most = true → ∃ b s : Nat, bits = (b : Int) ∧ shift = (s : Int) ∧ 1 ≤ b ∧ ((b + s : Nat) : Int) ≤ most := fun most hm h => by
      unfold numB at h
      simp only [Bool.and_eq_true, decide_eq_true_eq] at h
      exact ⟨bits.toNat, shift.toNat, by omega, by omega, by omega, by omega⟩
    by_cases h2 : kind = 2
    · subst h2
      rw [if_pos rfl] at hc
      obtain ⟨b, s, rfl, rfl, h3, h4⟩ := key 62 (by decide) hc
      have e : valI ⟨2, file, (b : Int), (s : Int), plus, ex⟩ n = (n : Int) * 2 ^ s := by unfold valI; rw [if_neg (by simp), if_pos rfl]; rfl
      rw [e]
      exact valueOf_uns nm file plus b s A l k n (by omega) hn w
    · rw [if_neg h2] at hc
      split at hc
      · obtain ⟨b, s, rfl, rfl, h3, h4⟩ := key 64 (by decide) hc
        have e : valI ⟨kind, file, (b : Int), (s : Int), plus, ex⟩ n = sgnN b n * 2 ^ s := by unfold valI; rw [if_neg h1, if_neg h2]; rfl
        rw [e]
        exact valueOf_sgn nm kind file plus b s A l k n h1 h2 h3 (by omega) hn w
      · cases hc
end Go.Proofs.YtdipnhghdajplaaGreatDoor
namespace Go.Proofs.YtdipnhghdajplaaGreatDoor
open Go.RowKit
set_option linter.unusedSimpArgs false
set_option linter.unusedVariables false

/-- A round of a loop over a list: the ones behind met P. -/
def RelA {α : Type} (w : World) (dv : List Value) (l : List α) (P : α → Bool) (i : Value) (wr : World) : Prop := ∃ j : Nat, j ≤ l.length ∧ i = .int .i64 (j : Int) ∧ Fr w wr ∧ BlkAt wr w.heap.size dv ∧ (l.take j).all P = true
theorem all_no {α : Type} {l : List α} {P : α → Bool} {j : Nat} (h : j < l.length) (hp : P l[j] = false) : l.all P = false := by
  rw [List.all_eq_false]; exact ⟨l[j], List.getElem_mem h, by simp [hp]⟩
theorem all_next {α : Type} {l : List α} {P : α → Bool} {j : Nat} (h : j < l.length) (ha : (l.take j).all P = true) (hp : P l[j] = true) : (l.take (j + 1)).all P = true := by
  rw [List.take_succ_eq_append_getElem h, List.all_append, ha]; simp [hp]
theorem all_end {α : Type} {l : List α} {P : α → Bool} (ha : (l.take l.length).all P = true) : l.all P = true := by rwa [List.take_length] at ha
theorem alB_no {D : Ds} {x : Al} (h : plB x.file D.files.length = false) : alB D x = false := by simp [alB, h]
theorem alB_at {D : Ds} {k : Nat} {nu : Int} (h : k < D.files.length) : alB D ⟨(k : Int), nu⟩ = (decide (0 ≤ nu) && decide (nu < (D.files[k]).1)) := by simp [alB, plB_nat, h]
set_option maxHeartbeats 6400000 in
set_option maxRecDepth 100000 in
theorem regsThere_any {w : World} {D : Ds} {v : Array Value} (hD : DescAt w D v) (L : Option Addr) (l : List Al) (c : Nat) (hL : RowOf AlAt 3 w L l) (hsm : l.length ≤ maxLen) :
    Calls Tryz.prog 47 #[.agg v, .slice L l.length c] w fun e w' => e = .returned (.bool (l.all (alB D))) ∧ Fr w w' := by
  obtain ⟨s0, Fa, Ba, Ga, Ca, Ma, Ra, Ua, Xa, Ka, Na, Pa, fc, bc, gc, cc, mc, rc, uc, xc, kc, nl, nc, pc, rfl, h1, h2, h3, h4, h5, h6, h7, h8, h9⟩ := hD
  have hsm : l.length ≤ 9223372036854775807 := Nat.le_trans hsm (by decide)
  have HF := Lib.hid h1
  have HL := Lib.hid hL
  clear h1 h2 h3 h4 h5 h6 h7 h8 h9 hL
  go_enter Tryz.func47, Tryz.ntmps47
  go_wp2
  go_loopw [9] (fun i wr => RelA w [.string s0, .int .i64 D.order, .slice Fa D.files.length fc, .slice Ba D.als.length bc, .slice Ga D.nflags gc, .slice Ca D.cls.length cc, .slice Ma D.fms.length mc, .slice Ra D.rels.length rc, .slice Ua D.uses.length uc, .slice Xa D.rxs.length xc, .slice Ka D.mcs.length kc, .slice Na nl nc, .slice Pa D.regs.length pc] l (alB D) i wr) (fun i _ => l.length - (intOf i).toNat)
  case atStart => exact ⟨0, by omega, rfl, Fr.alloc (Fr.refl w) _, BlkAt.alloc, by simp⟩
  case round =>
    obtain ⟨j, hj, rfl, hf, hB, hal⟩ := hrel
    have HFr := Lib.hid hf
    have HB := Lib.hid hB
    have HA := Lib.hid hal
    have d2 := hB 2 _ rfl
    have zb := lt_of_cell d2
    by_cases hlt : j < l.length
    · obtain ⟨bl, ol, rfl, n0, c0, w1, c1, w2, c2⟩ := (HL.out.fr fun _ _ _ x => x.fr hf).at hlt
      rw [Nat.mul_comm 3 j] at c0 c1 c2
      have HX := Lib.hid (fun (h : alB D l[j] = false) => all_no hlt h)
      have HY := Lib.hid (fun (h : alB D l[j] = true) => all_next hlt hal h)
      generalize l[j] = x at *
      obtain ⟨fi, nu⟩ := x
      simp only at c0 c1 c2 w1 w2
      have hji : (j : Int) < (l.length : Int) := by omega
      have zl := lt_of_cell c0
      have z1 : bl < wr.heap.size + 1 := by omega
      have z2 : w.heap.size < wr.heap.size + 1 := by omega
      clear hal hB hj
      cases hp : plB fi D.files.length with
      | false =>
        have HP := Lib.hid (fun A c w => hp ▸ filePlace_any fi A D.files.length c w)
        have H0 := Lib.hid (HX.out (alB_no hp))
        clear hp hf w1 w2 HX HY
        go_wp2
        go_quiet ((go_at_call 75; refine Calls.quiet_of_same (HP.out _ _ _)))
        go_wp2
        go_ret
        exact ⟨ret_bool (by rw [H0.out]), Fr.drewN (Fr.alloc HFr.out _) _⟩
      | true =>
        have HP := Lib.hid (fun A c w => hp ▸ filePlace_any fi A D.files.length c w)
        obtain ⟨k, rfl, hk⟩ := plB_ex hp
        obtain ⟨bf, of, rfl, nf, g0, g1, g2, g3⟩ := (HF.out.fr fun _ _ _ x => x.fr hf).at hk
        rw [Nat.mul_comm 4 k] at g0 g1 g2 g3
        have hki : (k : Int) < (D.files.length : Int) := by omega
        rw [alB_at hk] at HX HY
        generalize D.files[k] = f at *
        obtain ⟨f1, f2, f3⟩ := f
        have zf := lt_of_cell g0
        have z3 : bf < wr.heap.size + 1 := by omega
        clear hp hf w1 w2 g2 g3 g0
        by_cases hn : nu < 0
        · have hd1 : decide (nu < 0) = true := by simp [hn]
          have H0 := Lib.hid (HX.out (by simp; omega))
          clear HX HY
          go_wp2
          go_quiet ((go_at_call 75; refine Calls.quiet_of_same (HP.out _ _ _)))
          go_wp2
          go_ret
          exact ⟨ret_bool (by rw [H0.out]), Fr.drewN (Fr.alloc HFr.out _) _⟩
        · have hd1 : decide (nu < 0) = false := by simp [hn]
          by_cases hm : f1 ≤ nu
          · have hd2 : decide (f1 ≤ nu) = true := by simp [hm]
            have H0 := Lib.hid (HX.out (by simp; omega))
            clear HX HY
            go_wp2
            go_quiet ((go_at_call 75; refine Calls.quiet_of_same (HP.out _ _ _)))
            go_wp2
            go_ret
            exact ⟨ret_bool (by rw [H0.out]), Fr.drewN (Fr.alloc HFr.out _) _⟩
          · have hd2 : decide (f1 ≤ nu) = false := by simp [hm]
            have H0 := Lib.hid (HY.out (by simp; omega))
            clear HX HY
            go_wp2
            go_quiet ((go_at_call 75; refine Calls.quiet_of_same (HP.out _ _ _)))
            go_wp2
            go_roundw
            case rel => exact ⟨j + 1, by omega, by go_num, Fr.drewN (Fr.alloc HFr.out _) _, HB.out.fr (Fr.drewN (Fr.alloc (Fr.refl _) _) _), H0.out⟩
            case measure => simp [intOf]; omega
    · obtain rfl : j = l.length := by omega
      have H0 := Lib.hid (all_end hal)
      clear hal
      go_wp2
      go_ret
      exact ⟨ret_bool (by rw [H0.out]), HFr.out⟩
end Go.Proofs.YtdipnhghdajplaaGreatDoor
namespace Go.Proofs.YtdipnhghdajplaaGreatDoor
open Go.RowKit
set_option linter.unusedSimpArgs false
set_option linter.unusedVariables false

/-- As many terms as widths, each of its width. -/
def havB (E : Env) (ks : List Tm) (ws : List Int) : Bool := decide (ks.length = ws.length) && (ks.zip ws).all fun x => decide (widT E x.1 = x.2)
mutual
/-- Is an effect right? -/
def effB (E : Env) : Tm → Bool
  | .node op wd a b ks => if op = 31 then decide (0 < regW E a b) && havB E ks [regW E a b] else if op = 32 then plB a E.nflags && havB E ks [1] else if op = 33 then memB wd && havB E ks [64, wd]
    else if op = 34 then havB E ks [64] else if op = 35 then decide (1 ≤ a) && decide (a ≤ 15) && havB E ks [] else if op = 36 then havB E ks [] else if op = 37 then effK E ks else false
def effK (E : Env) : List Tm → Bool
  | [] => false
  | k :: r => havB E [k] [1] && effL E r
def effL (E : Env) : List Tm → Bool
  | [] => true
  | t :: r => effB E t && effL E r
end
theorem effL_all (E : Env) : ∀ l : List Tm, effL E l = l.all (effB E)
  | [] => by unfold effL; rfl
  | t :: r => by unfold effL; rw [effL_all E r]; rfl
/-- An int's cell. -/
def IntC (w : World) (b o : Nat) (x : Int) : Prop := w.cell? ⟨b, o, none⟩ = some (.int .i64 x)
theorem IntC.fr {w w' : World} {b o : Nat} {x : Int} (h : IntC w b o x) (k : Fr w w') : IntC w' b o x := k.get h
section
variable {E : Env} {Fa Ca Aa Ga Ma : Option Addr} {sb : Nat} {n0 n1 n3 n7 n8 n9 n10 n11 n12 : Value} {fc gc cc ml mc ac : Nat}
def RelH (w : World) (l : List (Tm × Int)) (P : Tm × Int → Bool) (i : Value) (wr : World) : Prop := ∃ j : Nat, j ≤ l.length ∧ i = .int .i64 (j : Int) ∧ Fr w wr ∧ (l.take j).all P = true
set_option maxHeartbeats 6400000 in
set_option maxRecDepth 100000 in
theorem have_any {w : World} (S : BlkAt w sb [n0, n1, .slice Fa E.files.length fc, n3, .slice Ga E.nflags gc, .slice Ca E.classes.length cc, .slice Ma ml mc, n7, n8, n9, n10, n11, n12, .slice Aa E.args.length ac]) (hE : EnvAt E w Fa Ca Aa) (ks : List Tm) (A : Option Addr) (c : Nat) (hT : TmL w A ks)
    (ws : List Int) (W : Option Addr) (c2 : Nat) (hW : RowOf IntC 1 w W ws) (hl2 : ws.length ≤ 2) :
    Calls Tryz.prog 111 #[.pointer (some ⟨sb, 0, none⟩), .slice A ks.length c, .slice W ws.length c2] w fun e w' => e = .returned (.bool (havB E ks ws)) ∧ Fr w w' := by
  have HS := Lib.hid S
  have HE := Lib.hid hE
  have HT := Lib.hid hT
  have HW := Lib.hid hW
  clear S hE hT hW
  by_cases hl : ks.length = ws.length
  · have HR := Lib.hid (show havB E ks ws = (ks.zip ws).all (fun x => decide (widT E x.1 = x.2)) by simp [havB, hl])
    have hne : ((ks.length : Int) != (ws.length : Int)) = false := by simp [hl]
    have HZ := Lib.hid (show (ks.zip ws).length = ws.length by simp [hl])
    have HL := Lib.hid hl
    clear hl
    go_enter Tryz.func111, Tryz.ntmps111
    go_wp2
    go_loopw [16] (fun i wr => RelH w (ks.zip ws) (fun x => decide (widT E x.1 = x.2)) i wr) (fun i _ => ws.length - (intOf i).toNat)
    case atStart => exact ⟨0, by omega, rfl, Fr.refl w, by simp⟩
    case round =>
      obtain ⟨j, hj, rfl, hf, hal⟩ := hrel
      rw [HZ.out] at hj
      have HF := Lib.hid hf
      by_cases hlt : j < ws.length
      · have hlk : j < ks.length := by rw [HL.out]; exact hlt
        have hlz : j < (ks.zip ws).length := by rw [HZ.out]; exact hlt
        obtain ⟨b', o', rfl, ht⟩ := (TmL.fr hf HT.out).elem j hlk
        obtain ⟨b2, o2, rfl, hw2⟩ := (HW.out.fr fun _ _ _ x => x.fr hf).at hlt
        have hzj : (ks.zip ws)[j] = (ks[j], ws[j]) := List.getElem_zip
        have HX := Lib.hid (fun h : decide (widT E ks[j] = ws[j]) = false => all_no (P := fun x : Tm × Int => decide (widT E x.1 = x.2)) hlz (by rw [hzj]; exact h))
        have HY := Lib.hid (fun h : decide (widT E ks[j] = ws[j]) = true => all_next (P := fun x : Tm × Int => decide (widT E x.1 = x.2)) hlz hal (by rw [hzj]; exact h))
        rw [Nat.mul_comm 5 j] at ht
        rw [Nat.one_mul] at hw2
        generalize ws[j] = y at *
        generalize ks[j] = x at *
        obtain ⟨op2, wd2, a2, b2', ks2⟩ := x
        unfold TmT at ht
        obtain ⟨A2, cc2, hc2, h0, h1, h2, h3, h4, hkk⟩ := ht
        have hw2 : wr.cell? ⟨b2, o2 + j, none⟩ = some (.int .i64 y) := hw2
        have hji : (j : Int) < (ws.length : Int) := by omega
        have hjk : (j : Int) < (ks.length : Int) := by omega
        have HC := Lib.hid (width_any (HS.out.fr hf) (HE.out.fr hf) op2 wd2 a2 b2' ks2 A2 cc2 hkk)
        generalize widT E (.node op2 wd2 a2 b2' ks2) = v at *
        by_cases hq : v = y
        · have H1 := Lib.hid (HY.out (by simp [hq]))
          have hvn : (v != y) = false := by simp [hq]
          clear hf hal hj hkk HX HY hzj hq
          go_wp2_with (go_at_call 143; refine HC.out.mono ?_; rintro e w4 ⟨rfl, hf4⟩; have HF4 := Lib.hid hf4; clear hf4)
          go_roundw
          case rel => exact ⟨j + 1, by rw [HZ.out]; omega, by go_num, HF.out.call HF4.out, H1.out⟩
          case measure => simp [intOf]; omega
        · have H1 := Lib.hid (HX.out (by simp [hq]))
          have hvn : (v != y) = true := by simp [hq]
          clear hf hal hj hkk HX HY hzj hq
          go_wp2_with (go_at_call 143; refine HC.out.mono ?_; rintro e w4 ⟨rfl, hf4⟩; have HF4 := Lib.hid hf4; clear hf4)
          go_ret
          exact ⟨ret_bool (by rw [HR.out, H1.out]), HF.out.call HF4.out⟩
      · obtain rfl : j = ws.length := by omega
        have H1 := Lib.hid (show (ks.zip ws).all (fun x => decide (widT E x.1 = x.2)) = true by
          rw [← HZ.out, List.take_length] at hal; exact hal)
        clear hf hal hj
        go_wp2
        go_ret
        exact ⟨ret_bool (by rw [HR.out, H1.out]), HF.out⟩
  · have HR := Lib.hid (show havB E ks ws = false by simp [havB, hl])
    have hne : ((ks.length : Int) != (ws.length : Int)) = true := by simp; omega
    go_enter Tryz.func111, Tryz.ntmps111
    go_wp2
    go_ret
    exact ⟨ret_bool (by rw [HR.out]), Fr.refl w⟩
end
end Go.Proofs.YtdipnhghdajplaaGreatDoor
namespace Go.Proofs.YtdipnhghdajplaaGreatDoor
open Go.RowKit
set_option linter.unusedSimpArgs false
set_option linter.unusedVariables false

theorem one_shl : ∀ r : Fin 64, IntKind.u64.wrap ((1 : Int) * 2 ^ r.val) = ((2 ^ r.val : Nat) : Int) := by decide +kernel
theorem one_shl2 : ∀ r : Fin 64, IntKind.u64.wrap ((2 : Int) ^ r.val) = ((2 ^ r.val : Nat) : Int) := by decide +kernel
theorem pow_u64 : ∀ r : Fin 64, 2 ^ r.val < 18446744073709551616 := by decide +kernel
/-- A set with one place more: one of its two numbers. -/
def addN (x p : Nat) : Nat := x ||| 2 ^ (p % 64)
set_option maxHeartbeats 3200000 in
set_option maxRecDepth 100000 in
theorem add_any (lb o x0 x1 : Nat) (h0 : x0 < 18446744073709551616) (h1 : x1 < 18446744073709551616) (p : Nat) (hp : p < 128) (w : World) (c0 : w.cell? ⟨lb, o, none⟩ = some (.int .u64 (x0 : Int))) (c1 : w.cell? ⟨lb, o + 1, none⟩ = some (.int .u64 (x1 : Int)))
    (f0 : w.frozen? ⟨lb, o, none⟩ = false) (f1 : w.frozen? ⟨lb, o + 1, none⟩ = false) :
    Calls Tryz.prog 109 #[.pointer (some ⟨lb, o, none⟩), .int .i64 (p : Int)] w fun e w' => e = .returned (.tuple #[]) ∧ ∃ n, w' = (w.drewN n).setCell ⟨lb, o + p / 64, none⟩ (.int .u64 (addN (if p < 64 then x0 else x1) p : Int)) := by
  have zl := lt_of_cell c0
  by_cases hq : p < 64
  · have e1 : Int.tdiv (p : Int) 64 = 0 := by rw [Int.tdiv_eq_ediv_of_nonneg (by omega)]; omega
    have e2 : Int.tmod (p : Int) 64 = (p : Int) := by rw [Int.tmod_eq_emod_of_nonneg (by omega)]; omega
    have em : p % 64 = p := by omega
    have ed : p / 64 = 0 := by omega
    have HA := Lib.hid (show addN (if p < 64 then x0 else x1) p = x0 ||| 2 ^ p by rw [if_pos hq]; unfold addN; rw [em])
    rw [HA.out, ed, Nat.add_zero]
    have hw0 : IntKind.i64.wrap 0 = 0 := by decide
    have hwp : IntKind.i64.wrap (p : Int) = (p : Int) := by simp [IntKind.wrap, IntKind.bits, IntKind.signed]; omega
    have hs := one_shl ⟨p, hq⟩
    have hs2 := one_shl2 ⟨p, hq⟩
    have ho := u64_or_nat x0 (2 ^ p) h0 (pow_u64 ⟨p, hq⟩)
    simp only at hs hs2
    clear em ed HA
    generalize x0 ||| 2 ^ p = y at *
    generalize hz : 2 ^ p = z at *
    go_enter Tryz.func109, Tryz.ntmps109
    go_wp2
    go_still_tail 12, (by kernel_rfl)
    change wpList _ _ _ _ _ w.drew
    go_wp2
    go_end0
    exact ⟨rfl, 1, rfl⟩
  · obtain ⟨r, rfl⟩ : ∃ r, p = 64 + r := ⟨p - 64, by omega⟩
    have hr : r < 64 := by omega
    have e1 : Int.tdiv ((64 : Int) + (r : Int)) 64 = 1 := by rw [Int.tdiv_eq_ediv_of_nonneg (by omega)]; omega
    have e2 : Int.tmod ((64 : Int) + (r : Int)) 64 = (r : Int) := by rw [Int.tmod_eq_emod_of_nonneg (by omega)]; omega
    have em : (64 + r) % 64 = r := by omega
    have ed : (64 + r) / 64 = 1 := by omega
    have HA := Lib.hid (show addN (if 64 + r < 64 then x0 else x1) (64 + r) = x1 ||| 2 ^ r by rw [if_neg hq]; unfold addN; rw [em])
    rw [HA.out, ed]
    have hw0 : IntKind.i64.wrap 1 = 1 := by decide
    have hwp : IntKind.i64.wrap (r : Int) = (r : Int) := by simp [IntKind.wrap, IntKind.bits, IntKind.signed]; omega
    have hs := one_shl ⟨r, hr⟩
    have hs2 := one_shl2 ⟨r, hr⟩
    have ho := u64_or_nat x1 (2 ^ r) h1 (pow_u64 ⟨r, hr⟩)
    simp only at hs hs2
    clear em ed HA
    generalize x1 ||| 2 ^ r = y at *
    generalize hz : 2 ^ r = z at *
    go_enter Tryz.func109, Tryz.ntmps109
    go_wp2
    go_still_tail 12, (by kernel_rfl)
    change wpList _ _ _ _ _ w.drew
    go_wp2
    go_end0
    exact ⟨rfl, 1, rfl⟩
end Go.Proofs.YtdipnhghdajplaaGreatDoor
namespace Go.Proofs.YtdipnhghdajplaaGreatDoor
open Go.RowKit
set_option linter.unusedSimpArgs false
set_option linter.unusedVariables false

/-- Is a place in a set of two numbers? -/
def hasN (x0 x1 p : Nat) : Bool := (if p < 64 then x0 else x1).testBit (p % 64)
/-- The bits at places from the k-th on, over those behind: none where one of them is neither 0 nor 1. -/
def litF (z0 z1 u0 u1 : Nat) (s : Option (Nat × Nat)) (p : Int) : Option (Nat × Nat) := match s with
  | none => none
  | some (k, b) => if hasN u0 u1 p.toNat then some (k + 1, b ||| 2 ^ k) else if hasN z0 z1 p.toNat then some (k + 1, b) else none
def litO (z0 z1 u0 u1 : Nat) (at_ : List Int) : Option (Nat × Nat) := at_.foldl (litF z0 z1 u0 u1) (some (0, 0))
/-- What the program answers. -/
def litV (s : Option (Nat × Nat)) : Value := match s with
  | none => .tuple #[.int .u64 0, .bool false]
  | some (_, b) => .tuple #[.int .u64 (b : Int), .bool true]
theorem litF_none (z0 z1 u0 u1 : Nat) : ∀ l : List Int, l.foldl (litF z0 z1 u0 u1) none = none
  | [] => rfl
  | p :: r => litF_none z0 z1 u0 u1 r
theorem litF_take {z0 z1 u0 u1 : Nat} {l : List Int} {j : Nat} (h : j < l.length) (s : Option (Nat × Nat)) : (l.take (j + 1)).foldl (litF z0 z1 u0 u1) s = litF z0 z1 u0 u1 ((l.take j).foldl (litF z0 z1 u0 u1) s) l[j] := by
  rw [List.take_succ_eq_append_getElem h, List.foldl_append]; rfl
theorem litF_dead {z0 z1 u0 u1 : Nat} {l : List Int} {j : Nat} (h : j ≤ l.length) {s : Option (Nat × Nat)} (hn : (l.take j).foldl (litF z0 z1 u0 u1) s = none) : l.foldl (litF z0 z1 u0 u1) s = none := by
  have := congrArg (fun l => l.foldl (litF z0 z1 u0 u1) s) (List.take_append_drop j l)
  simp only [List.foldl_append] at this
  rw [← this, hn, litF_none]
/-- What is kept of it: as many as places; fewer bits than places. -/
theorem litF_bd {z0 z1 u0 u1 : Nat} : ∀ (l : List Int) (k b k' b' : Nat), b < 2 ^ k → l.foldl (litF z0 z1 u0 u1) (some (k, b)) = some (k', b') → k' = k + l.length ∧ b' < 2 ^ k'
  | [], k, b, k', b', hb, h => by
    simp only [List.foldl_nil, Option.some.injEq, Prod.mk.injEq] at h
    obtain ⟨rfl, rfl⟩ := h
    exact ⟨rfl, hb⟩
  | p :: r, k, b, k', b', hb, h => by
    rw [List.foldl_cons] at h
    have hk : b < 2 ^ (k + 1) := Nat.lt_of_lt_of_le hb (Nat.pow_le_pow_right (by decide) (by omega))
    have hk2 : b ||| 2 ^ k < 2 ^ (k + 1) := Nat.or_lt_two_pow hk (Nat.pow_lt_pow_right (by decide) (by omega))
    rw [show litF z0 z1 u0 u1 (some (k, b)) p = (if hasN u0 u1 p.toNat then some (k + 1, b ||| 2 ^ k) else if hasN z0 z1 p.toNat then some (k + 1, b) else none) from rfl] at h
    split at h
    · obtain ⟨h1, h2⟩ := litF_bd r (k + 1) _ k' b' hk2 h
      exact ⟨by rw [List.length_cons]; omega, h2⟩
    · split at h
      · obtain ⟨h1, h2⟩ := litF_bd r (k + 1) _ k' b' hk h
        exact ⟨by rw [List.length_cons]; omega, h2⟩
      · rw [litF_none] at h; cases h
def RelL (z0 z1 u0 u1 : Nat) (at_ : List Int) (w : World) (ly : List Value) (i bv : Value) (wr : World) : Prop := ∃ (j b : Nat), j ≤ at_.length ∧ i = .int .i64 (j : Int) ∧ bv = .int .u64 (b : Int) ∧ Fr w wr ∧ BlkAt wr w.heap.size ly ∧ (at_.take j).foldl (litF z0 z1 u0 u1) (some (0, 0)) = some (j, b)
set_option maxHeartbeats 6400000 in
set_option maxRecDepth 100000 in
theorem literalBits_any (z0 z1 u0 u1 : Nat) (hz0 : z0 < 18446744073709551616) (hz1 : z1 < 18446744073709551616) (hu0 : u0 < 18446744073709551616) (hu1 : u1 < 18446744073709551616) (O : Option Addr) (ol oc : Nat) (at_ : List Int) (hat : ∀ p ∈ at_, 0 ≤ p ∧ p < 128) (hlen : at_.length ≤ 64)
    (A : Option Addr) (c : Nat) {w : World} (hA : RowOf IntC 1 w A at_) :
    Calls Tryz.prog 107 #[.agg #[.int .u64 (z0 : Int), .int .u64 (z1 : Int), .int .u64 (u0 : Int), .int .u64 (u1 : Int), .slice O ol oc], .slice A at_.length c] w fun e w' =>
      e = .returned (litV (litO z0 z1 u0 u1 at_)) ∧ Fr w w' := by
  have HA := Lib.hid hA
  have HAT := Lib.hid hat
  clear hA hat
  obtain ⟨res, hres⟩ : ∃ res, litO z0 z1 u0 u1 at_ = res := ⟨_, rfl⟩
  rw [hres]
  have HRES := Lib.hid hres
  clear hres
  go_enter Tryz.func107, Tryz.ntmps107
  go_wp2
  go_loopw [11, 6] (fun i bv wr => RelL z0 z1 u0 u1 at_ w [.int .u64 (z0 : Int), .int .u64 (z1 : Int), .int .u64 (u0 : Int), .int .u64 (u1 : Int), .slice O ol oc] i bv wr) (fun i _ _ => at_.length - (intOf i).toNat)
  case atStart => exact ⟨0, 0, by omega, rfl, rfl, Fr.alloc (Fr.refl w) _, BlkAt.alloc, rfl⟩
  case round =>
    obtain ⟨j, b, hj, rfl, rfl, hf, hB, hst⟩ := hrel
    have hbb := (litF_bd (at_.take j) 0 0 j b (by decide) hst).2
    have HF := Lib.hid hf
    have HB := Lib.hid hB
    have HST := Lib.hid hst
    have a0 := hB 0 _ rfl
    have a1 := hB 1 _ rfl
    have a2 := hB 2 _ rfl
    have a3 := hB 3 _ rfl
    have zw := lt_of_cell a0
    by_cases hlt : j < at_.length
    · obtain ⟨ba, oa, rfl, hx⟩ := (HA.out.fr fun _ _ _ x => x.fr hf).at hlt
      rw [Nat.one_mul] at hx
      have hp := HAT.out _ (List.getElem_mem hlt)
      have HTK := Lib.hid (litF_take (z0 := z0) (z1 := z1) (u0 := u0) (u1 := u1) hlt (some (0, 0)))
      rw [hst] at HTK
      have HDE := Lib.hid (fun h => litF_dead (z0 := z0) (z1 := z1) (u0 := u0) (u1 := u1) (l := at_) (j := j + 1) (by omega) (s := some (0, 0)) h)
      generalize at_[j] = x at *
      obtain ⟨p, rfl⟩ := Int.eq_ofNat_of_zero_le hp.1
      have hx : wr.cell? ⟨ba, oa + j, none⟩ = some (.int .i64 (p : Int)) := hx
      have hp128 : p < 128 := by omega
      have hji : (j : Int) < (at_.length : Int) := by omega
      have HU := Lib.hid (fun w => has_any u0 u1 hu0 hu1 p hp128 w)
      have HZ := Lib.hid (fun w => has_any z0 z1 hz0 hz1 p hp128 w)
      have HLF := Lib.hid (show litF z0 z1 u0 u1 (some (j, b)) (p : Int) = (if hasN u0 u1 p then some (j + 1, b ||| 2 ^ j) else if hasN z0 z1 p then some (j + 1, b) else none) from rfl)
      rw [show (if p < 64 then u0 else u1).testBit (p % 64) = hasN u0 u1 p from rfl] at HU
      rw [show (if p < 64 then z0 else z1).testBit (p % 64) = hasN z0 z1 p from rfl] at HZ
      have hj63 : j < 64 := by omega
      have hs := one_shl ⟨j, hj63⟩
      have hs2 := one_shl2 ⟨j, hj63⟩
      have hb64 : b < 18446744073709551616 := Nat.lt_trans hbb (pow_u64 ⟨j, hj63⟩)
      have ho := u64_or_nat b (2 ^ j) hb64 (pow_u64 ⟨j, hj63⟩)
      have HO := Lib.hid ho
      simp only at hs hs2
      clear hf hB hst hj hp hbb ho
      cases hu : hasN u0 u1 p with
      | true =>
        have HR := Lib.hid (show (at_.take (j + 1)).foldl (litF z0 z1 u0 u1) (some (0, 0)) = some (j + 1, b ||| 2 ^ j) by rw [HTK.out, HLF.out, hu]; rfl)
        rw [hu] at HU
        have ho := HO.out
        clear hu HTK HDE HLF HO
        generalize b ||| 2 ^ j = b2 at *
        generalize hz : 2 ^ j = z at *
        go_wp2_with (go_at_call 141; refine (HU.out _).mono ?_; rintro e w4 ⟨rfl, hf4⟩; have HF4 := Lib.hid hf4; clear hf4)
        go_roundw
        case rel => exact ⟨j + 1, b2, by omega, by go_num, by go_num, HF.out.call HF4.out, HB.out.fr HF4.out, HR.out⟩
        case measure => simp [intOf]; omega
      | false =>
        cases hz : hasN z0 z1 p with
        | true =>
          have HR := Lib.hid (show (at_.take (j + 1)).foldl (litF z0 z1 u0 u1) (some (0, 0)) = some (j + 1, b) by rw [HTK.out, HLF.out, hu, hz]; rfl)
          rw [hu] at HU
          rw [hz] at HZ
          clear hu hz HTK HDE HLF HO hs hs2
          go_wp2_with fail
          refine (HU.out _).mono ?_
          rintro e w4 ⟨rfl, hf4⟩
          have HF4 := Lib.hid hf4
          have b0 := HB.out.fr hf4 0 _ rfl
          have b1 := HB.out.fr hf4 1 _ rfl
          clear hf4
          go_wp2_with fail
          refine (HZ.out _).mono ?_
          rintro e w5 ⟨rfl, hf5⟩
          have HF5 := Lib.hid (HF4.out.call hf5)
          clear hf5
          go_wp2_with fail
          go_roundw
          case rel => exact ⟨j + 1, b, by omega, by go_num, rfl, HF.out.call HF5.out, HB.out.fr HF5.out, HR.out⟩
          case measure => simp [intOf]; omega
        | false =>
          have HDD := Lib.hid (HDE.out (by rw [HTK.out, HLF.out, hu, hz]; rfl))
          have HR := Lib.hid (show res = none by rw [← HRES.out]; exact HDD.out)
          rw [hu] at HU
          rw [hz] at HZ
          clear hu hz HTK HDE HLF HO hs hs2 HDD
          go_wp2_with fail
          refine (HU.out _).mono ?_
          rintro e w4 ⟨rfl, hf4⟩
          have HF4 := Lib.hid hf4
          have b0 := HB.out.fr hf4 0 _ rfl
          have b1 := HB.out.fr hf4 1 _ rfl
          clear hf4
          go_wp2_with fail
          refine (HZ.out _).mono ?_
          rintro e w5 ⟨rfl, hf5⟩
          have HF5 := Lib.hid (HF4.out.call hf5)
          clear hf5
          go_wp2
          go_ret2
          exact ⟨by rw [HR.out]; rfl, HF.out.call HF5.out⟩
    · obtain rfl : j = at_.length := by omega
      rw [List.take_length] at hst
      have HR := Lib.hid (show res = some (at_.length, b) by rw [← HRES.out]; exact hst)
      clear hf hB hst hj hbb HST
      go_wp2
      go_ret2
      exact ⟨by rw [HR.out]; rfl, HF.out⟩
end Go.Proofs.YtdipnhghdajplaaGreatDoor
