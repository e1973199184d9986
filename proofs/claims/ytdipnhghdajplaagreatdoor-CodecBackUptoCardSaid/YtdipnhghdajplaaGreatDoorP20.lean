/- Patterns: how many bits their pieces have, as plain functions. -/
import Derived.Test.YtdipnhghdajplaaGreatDoorP16
import Derived.Test.YtdipnhghdajplaaGreatDoorP19
import Derived.Test.YtdipnhghdajplaaGreatDoorP05
import Derived.Deep.QuietTactic
import Derived.RegionTactic
import Derived.StillTailTactics
import Derived.Laws.BitsAllLaws
import Derived.Deep.RegionHeld3
namespace Go.Proofs.YtdipnhghdajplaaGreatDoor
open Go.RowKit
set_option linter.unusedSimpArgs false
set_option linter.unusedVariables false
def litC (c : UInt8) : Bool := c == 48 || c == 49 || c == 120
def litB (s : ByteArray) : Bool := s.data.toList.all litC
def bitsAt (D : Ds) (args : List Int) (i : Nat) : Int := match args[i]? with
 | none => 0
 | some c => match D.cls[c.toNat]? with
   | none => 0
   | some k => k.bits
def pcN (D : Ds) (args : List Int) (p : Pc) : Nat :=
 if p.arg = -1 then (if litB p.lit then p.lit.size else 0)
 else if plB p.arg args.length && (decide (0 ≤ p.lo) && (decide (p.lo ≤ p.hi) && decide (p.hi < bitsAt D args p.arg.toNat))) then (p.hi - p.lo + 1).toNat else 0
def maskN (p : Pc) : Nat := lowI (p.hi - p.lo + 1).toNat * 2 ^ p.lo.toNat
def patF (D : Ds) (args : List Int) (s : Option (Nat × List Nat)) (p : Pc) : Option (Nat × List Nat) := match s with
 | none => none
 | some (b, seen) => if pcN D args p = 0 then none else if p.arg = -1 then some (b + pcN D args p, seen)
   else if seen.getD p.arg.toNat 0 &&& maskN p = 0 then some (b + pcN D args p, seen.set p.arg.toNat (seen.getD p.arg.toNat 0 ||| maskN p)) else none
def pat0 : Option (Nat × List Nat) := some (0, [0, 0, 0, 0, 0, 0])
def fullB (D : Ds) (args : List Int) (seen : List Nat) : Bool := (List.range args.length).all fun i => decide (seen.getD i 0 = lowI (bitsAt D args i).toNat)
def opsB (D : Ds) (args : List Int) : Bool := decide (args.length ≤ 6) && args.all (clsAtB D)
def patN (D : Ds) (args : List Int) (pcs : List Pc) : Nat := if opsB D args then match pcs.foldl (patF D args) pat0 with
   | none => 0
   | some (b, seen) => if fullB D args seen && (decide (b % 8 = 0) && decide (b ≤ 120)) then b else 0
 else 0
structure Light (pcs : List Pc) : Prop where
 many : pcs.length ≤ 1048576
 lits : ∀ p ∈ pcs, p.lit.size ≤ 1048576
theorem patF_none (D : Ds) (args : List Int) : ∀ l : List Pc, l.foldl (patF D args) none = none
 | [] => rfl
 | p :: r => patF_none D args r
theorem patF_take {D : Ds} {args : List Int} {pcs : List Pc} {j : Nat} (h : j < pcs.length) (s : Option (Nat × List Nat)) : (pcs.take (j + 1)).foldl (patF D args) s = patF D args ((pcs.take j).foldl (patF D args) s) pcs[j] := by
 rw [List.take_succ_eq_append_getElem h, List.foldl_append]; rfl
theorem patF_dead {D : Ds} {args : List Int} {pcs : List Pc} {j : Nat} (h : j ≤ pcs.length) {s : Option (Nat × List Nat)} (hn : (pcs.take j).foldl (patF D args) s = none) : pcs.foldl (patF D args) s = none := by
 have := congrArg (fun l => l.foldl (patF D args) s) (List.take_append_drop j pcs)
 simp only [List.foldl_append] at this
 rw [← this, hn, patF_none]
theorem args_at {D : Ds} {args : List Int} (h : args.all (clsAtB D) = true) {i : Nat} (hi : i < args.length) :
   ∃ c : Nat, args[i] = (c : Int) ∧ ∃ hc : c < D.cls.length, clsB D D.cls[c] = true ∧ bitsAt D args i = (D.cls[c]).bits ∧ 1 ≤ (D.cls[c]).bits ∧ (D.cls[c]).bits ≤ 64 := by
 have h1 := List.all_eq_true.1 h _ (List.getElem_mem hi)
 unfold clsAtB at h1
 by_cases h0 : 0 ≤ args[i]
 · rw [if_pos h0] at h1
   cases hc : D.cls[(args[i]).toNat]? with
   | none => rw [hc] at h1; cases h1
   | some c =>
     rw [hc] at h1
     obtain ⟨hl, e⟩ := List.getElem?_eq_some_iff.1 hc
     refine ⟨(args[i]).toNat, by omega, hl, by rw [e]; exact h1, ?_, ?_⟩
     · unfold bitsAt; rw [List.getElem?_eq_getElem hi]; dsimp only; rw [hc, e]
     · have h1 : clsB D c = true := h1
       rw [e]
       unfold clsB at h1
       split at h1
       · unfold regB at h1
         split at h1
         · cases h1
         · simp at h1; omega
       · split at h1
         · unfold numB at h1; simp at h1; omega
         · split at h1
           · unfold numB at h1; simp at h1; omega
           · cases h1
 · rw [if_neg h0] at h1; cases h1
theorem bitsAt_le {D : Ds} {args : List Int} (h : args.all (clsAtB D) = true) (i : Nat) : bitsAt D args i ≤ 64 := by
 by_cases hi : i < args.length
 · obtain ⟨c, _, hc, _, e, _, h2⟩ := args_at h hi
   rw [e]; exact h2
 · unfold bitsAt; rw [List.getElem?_eq_none (by omega)]; simp
theorem low_lt (n : Nat) : lowI n < 2 ^ n := by unfold lowI; have := Nat.two_pow_pos n; omega
theorem pc_right {D : Ds} {args : List Int} {p : Pc} (h : args.all (clsAtB D) = true) (ha : p.arg ≠ -1) (hn : pcN D args p ≠ 0) :
   ∃ k lo n : Nat, p.arg = (k : Int) ∧ k < args.length ∧ p.lo = (lo : Int) ∧ p.hi = ((lo + n : Nat) : Int) - 1 ∧ n = pcN D args p ∧ 1 ≤ n ∧ ((lo + n : Nat) : Int) ≤ bitsAt D args k ∧ lo + n ≤ 64 ∧ maskN p = lowI n * 2 ^ lo := by
 unfold pcN at hn ⊢
 rw [if_neg ha] at hn ⊢
 split at hn
 · rename_i hc
   rw [if_pos hc]
   simp only [Bool.and_eq_true, decide_eq_true_eq] at hc
   obtain ⟨hp, h1, h2, h3⟩ := hc
   obtain ⟨k, e, hk⟩ := plB_ex hp
   have hb := bitsAt_le h p.arg.toNat
   have ek : p.arg.toNat = k := by omega
   rw [ek] at h3 hb
   refine ⟨k, p.lo.toNat, (p.hi - p.lo + 1).toNat, e, hk, by omega, by omega, rfl, by omega, by omega, by omega, rfl⟩
 · exact absurd rfl hn
theorem mask_lt {p : Pc} {lo n : Nat} (h : maskN p = lowI n * 2 ^ lo) (hl : lo + n ≤ 64) : maskN p < 18446744073709551616 := by
 rw [h]
 have h1 := low_lt n
 have h2 := Nat.two_pow_pos lo
 calc lowI n * 2 ^ lo < 2 ^ n * 2 ^ lo := Nat.mul_lt_mul_of_pos_right h1 h2
   _ = 2 ^ (n + lo) := by rw [Nat.pow_add]
   _ ≤ 2 ^ 64 := Nat.pow_le_pow_right (by decide) (by omega)
   _ = 18446744073709551616 := by decide
theorem pat_bd {D : Ds} {args : List Int} (h : args.all (clsAtB D) = true) : ∀ (l : List Pc) (b : Nat) (seen : List Nat), seen.length = 6 → (∀ x ∈ seen, x < 18446744073709551616) → (∀ p ∈ l, p.lit.size ≤ 1048576) → ∀ b' seen', l.foldl (patF D args) (some (b, seen)) = some (b', seen') →
   seen'.length = 6 ∧ (∀ x ∈ seen', x < 18446744073709551616) ∧ b' ≤ b + l.length * 1048576
 | [], b, seen, h6, hx, hl, b', seen', he => by
   simp only [List.foldl_nil, Option.some.injEq, Prod.mk.injEq] at he
   obtain ⟨rfl, rfl⟩ := he
   exact ⟨h6, hx, by omega⟩
 | p :: r, b, seen, h6, hx, hl, b', seen', he => by
   rw [List.foldl_cons] at he
   have hp := hl p (List.mem_cons_self)
   have key : ∀ b1 seen1, patF D args (some (b, seen)) p = some (b1, seen1) → seen1.length = 6 ∧ (∀ x ∈ seen1, x < 18446744073709551616) ∧ b1 ≤ b + 1048576 := by
     intro b1 seen1 h1
     unfold patF at h1
     dsimp only at h1
     split at h1
     · cases h1
     · rename_i hn
       split at h1
       · rename_i ha
         simp only [Option.some.injEq, Prod.mk.injEq] at h1
         obtain ⟨rfl, rfl⟩ := h1
         refine ⟨h6, hx, ?_⟩
         unfold pcN; rw [if_pos ha]; split <;> omega
       · rename_i ha
         obtain ⟨k, lo, n, e1, e2, e3, e4, e5, e6, e7, e8, e9⟩ := pc_right h ha hn
         split at h1
         · simp only [Option.some.injEq, Prod.mk.injEq] at h1
           obtain ⟨rfl, rfl⟩ := h1
           refine ⟨by simp [h6], fun x hm => ?_, by omega⟩
           rcases List.mem_or_eq_of_mem_set hm with hm | rfl
           · exact hx x hm
           · refine Nat.or_lt_two_pow (n := 64) ?_ (mask_lt e9 e8)
             rw [List.getD_eq_getElem?_getD]
             cases hg : seen[p.arg.toNat]? with
             | none => simp
             | some y => exact hx y (List.mem_of_getElem? hg)
         · cases h1
   cases hs : patF D args (some (b, seen)) p with
   | none => rw [hs, patF_none] at he; cases he
   | some s1 =>
     obtain ⟨b1, seen1⟩ := s1
     rw [hs] at he
     obtain ⟨k1, k2, k3⟩ := key b1 seen1 hs
     obtain ⟨m1, m2, m3⟩ := pat_bd h r b1 seen1 k1 k2 (fun q hq => hl q (List.mem_cons_of_mem _ hq)) b' seen' he
     refine ⟨m1, m2, ?_⟩
     simp only [List.length_cons]; omega
def sgnN (bits n : Nat) : Int := if n < 2 ^ (bits - 1) then (n : Int) else (n : Int) - 2 ^ bits
def valI (c : Cl) (n : Nat) : Int := if c.kind = 1 then c.plus + (n : Int) else if c.kind = 2 then (n : Int) * 2 ^ c.shift.toNat else sgnN c.bits.toNat n * 2 ^ c.shift.toNat
theorem pow_le_63 {a b : Nat} (h : a + b ≤ 63) : (2 : Int) ^ a * 2 ^ b ≤ 9223372036854775808 := by
 rw [← Int.pow_add]
 have : (2 : Nat) ^ (a + b) ≤ 2 ^ 63 := Nat.pow_le_pow_right (by decide) h
 have e : ((2 : Nat) ^ (a + b) : Int) ≤ ((2 ^ 63 : Nat) : Int) := by exact_mod_cast this
 simpa using e
theorem wrap_in {x : Int} (h1 : -9223372036854775808 ≤ x) (h2 : x < 9223372036854775808) : IntKind.i64.wrap x = x := by
 unfold IntKind.wrap; simp [IntKind.bits, IntKind.signed]; omega
theorem sgn_bd {bits n : Nat} (hb : 1 ≤ bits) (hn : n < 2 ^ bits) : -(2 ^ (bits - 1) : Int) ≤ sgnN bits n ∧ sgnN bits n < 2 ^ (bits - 1) := by
 have e : 2 ^ bits = 2 * 2 ^ (bits - 1) := by rw [← Nat.pow_succ']; congr 1; omega
 have e2 : (2 : Int) ^ bits = 2 * 2 ^ (bits - 1) := by exact_mod_cast e
 unfold sgnN
 have c1 : ((2 ^ (bits - 1) : Nat) : Int) = 2 ^ (bits - 1) := by simp
 generalize hp : (2 : Nat) ^ (bits - 1) = P at *
 generalize hq : (2 : Int) ^ (bits - 1) = Q at *
 rw [e2]
 split <;> omega
theorem sgn_mul {bits n sh : Nat} (hb : 1 ≤ bits) (hn : n < 2 ^ bits) (hs : bits + sh ≤ 64) : -9223372036854775808 ≤ sgnN bits n * 2 ^ sh ∧ sgnN bits n * 2 ^ sh < 9223372036854775808 := by
 obtain ⟨h1, h2⟩ := sgn_bd hb hn
 have h3 := pow_le_63 (a := bits - 1) (b := sh) (by omega)
 have h4 : (0 : Int) < 2 ^ sh := Int.pow_pos (by decide)
 constructor
 · have := Int.mul_le_mul_of_nonneg_right h1 (Int.le_of_lt h4)
   have e : -(2 ^ (bits - 1) : Int) * 2 ^ sh = -((2 ^ (bits - 1) : Int) * 2 ^ sh) := Int.neg_mul _ _
   omega
 · have := Int.mul_lt_mul_of_pos_right h2 h4
   omega
theorem sgn_up {bits n : Nat} (hb : 1 ≤ bits) (hb2 : bits ≤ 64) (hn : n < 2 ^ bits) : IntKind.i64.wrap ((n * 2 ^ (64 - bits) : Nat) : Int) = sgnN bits n * 2 ^ (64 - bits) := by
 obtain ⟨h1, h2⟩ := sgn_mul (sh := 64 - bits) hb hn (by omega)
 have e64 : (2 : Int) ^ bits * 2 ^ (64 - bits) = 18446744073709551616 := by rw [← Int.pow_add, show bits + (64 - bits) = 64 by omega]; decide
 have hc : ((n * 2 ^ (64 - bits) : Nat) : Int) = (n : Int) * 2 ^ (64 - bits) := by simp
 rw [hc]
 unfold sgnN at *
 split
 · rename_i h
   rw [if_pos h] at h1 h2
   exact wrap_in h1 h2
 · rename_i h
   rw [if_neg h] at h1 h2
   have e : ((n : Int) - 2 ^ bits) * 2 ^ (64 - bits) = (n : Int) * 2 ^ (64 - bits) - 18446744073709551616 := by rw [Int.sub_mul, e64]
   rw [e] at h1 h2 ⊢
   generalize (n : Int) * 2 ^ (64 - bits) = z at *
   unfold IntKind.wrap; simp [IntKind.bits, IntKind.signed]; omega
theorem up_u64 {bits n : Nat} (hb2 : bits ≤ 64) (hn : n < 2 ^ bits) : IntKind.u64.wrap ((n : Int) * 2 ^ (64 - bits)) = ((n * 2 ^ (64 - bits) : Nat) : Int) := by
 have h : n * 2 ^ (64 - bits) < 2 ^ bits * 2 ^ (64 - bits) := Nat.mul_lt_mul_of_pos_right hn (Nat.two_pow_pos _)
 rw [← Nat.pow_add, show bits + (64 - bits) = 64 by omega] at h
 have hc : ((n : Int) * 2 ^ (64 - bits)) = ((n * 2 ^ (64 - bits) : Nat) : Int) := by simp
 rw [hc]
 generalize n * 2 ^ (64 - bits) = z at *
 simp [IntKind.wrap, IntKind.bits, IntKind.signed]
 omega
set_option maxHeartbeats 3200000 in
theorem valueOf_sgn (nm : ByteArray) (kind file plus : Int) (bits shift : Nat) (A : Option Addr) (l k : Nat) (n : Nat) (h1 : kind ≠ 1) (h2 : kind ≠ 2) (hb : 1 ≤ bits) (hs : bits + shift ≤ 64) (hn : n < 2 ^ bits) (w : World) :
   Calls Tryz.prog 108 #[.agg #[.string nm, .int .i64 kind, .int .i64 file, .int .i64 (bits : Int), .int .i64 (shift : Int), .int .i64 plus, .slice A l k], .int .u64 (n : Int)] w fun e w' => e = .returned (.int .i64 (sgnN bits n * 2 ^ shift)) ∧ Fr w w' := by
 have hu := up_u64 (by omega : bits ≤ 64) hn
 have hsu := sgn_up hb (by omega) hn
 have hm := sgn_mul hb hn hs
 have hwm := wrap_in hm.1 hm.2
 have hd : sgnN bits n * 2 ^ (64 - bits) / 2 ^ (64 - bits) = sgnN bits n := Int.mul_ediv_cancel _ (by have : (0 : Int) < 2 ^ (64 - bits) := Int.pow_pos (by decide); omega)
 have hs0 := sgn_bd hb hn
 have hw3 := wrap_in (x := sgnN bits n) (by have := pow_le_63 (a := bits - 1) (b := 0) (by omega); simp at this; omega) (by have := pow_le_63 (a := bits - 1) (b := 0) (by omega); simp at this; omega)
 obtain ⟨u, hue⟩ : ∃ u, 64 - bits = u := ⟨_, rfl⟩
 rw [hue] at hu hsu hd
 have hbi : (64 : Int) - (bits : Int) = (u : Int) := by omega
 have hul : u ≤ 63 := by omega
 have hsl : shift ≤ 63 := by omega
 have hbl : bits ≤ 64 := by omega
 clear hm hs0 hn hb hs hue
 generalize n * 2 ^ u = y at *
 generalize sgnN bits n = s at *
 have k1 : (kind == 1) = false := by simp [h1]
 have k2 : (kind == 2) = false := by simp [h2]
 clear h1 h2
 go_enter Tryz.func108, Tryz.ntmps108
 go_wp2
 go_quiet (fail)
 go_wp2
 go_ret
 exact ⟨rfl, Fr.drewN (Fr.alloc (Fr.refl w) _) _⟩
theorem conv_n {n : Nat} (h : n < 9223372036854775808) : IntKind.i64.wrap (n : Int) = (n : Int) := wrap_in (by omega) (by omega)
set_option maxHeartbeats 3200000 in
theorem valueOf_uns (nm : ByteArray) (file plus : Int) (bits shift : Nat) (A : Option Addr) (l k : Nat) (n : Nat) (hs : bits + shift ≤ 62) (hn : n < 2 ^ bits) (w : World) :
   Calls Tryz.prog 108 #[.agg #[.string nm, .int .i64 2, .int .i64 file, .int .i64 (bits : Int), .int .i64 (shift : Int), .int .i64 plus, .slice A l k], .int .u64 (n : Int)] w fun e w' => e = .returned (.int .i64 ((n : Int) * 2 ^ shift)) ∧ Fr w w' := by
 have hb : n * 2 ^ shift < 2 ^ bits * 2 ^ shift := Nat.mul_lt_mul_of_pos_right hn (Nat.two_pow_pos _)
 have hb2 : 2 ^ bits * 2 ^ shift ≤ 2 ^ 62 := by rw [← Nat.pow_add]; exact Nat.pow_le_pow_right (by decide) hs
 have hb3 : 2 ^ bits ≤ 2 ^ 62 := Nat.pow_le_pow_right (by decide) (by omega)
 have hc : (n : Int) * 2 ^ shift = ((n * 2 ^ shift : Nat) : Int) := by simp
 have hwn := conv_n (n := n) (by omega)
 have hwm : IntKind.i64.wrap ((n : Int) * 2 ^ shift) = (n : Int) * 2 ^ shift := by rw [hc]; exact conv_n (by omega)
 have hsl : shift ≤ 62 := by omega
 clear hb hb2 hb3 hc hn hs
 go_enter Tryz.func108, Tryz.ntmps108
 go_wp2
 go_ret
 exact ⟨rfl, Fr.alloc (Fr.refl w) _⟩
set_option maxHeartbeats 3200000 in
theorem valueOf_reg (nm : ByteArray) (file bits shift plus : Int) (A : Option Addr) (l k : Nat) (n : Nat) (hp0 : 0 ≤ plus) (hp : plus ≤ 64) (hn : n < 64) (w : World) :
   Calls Tryz.prog 108 #[.agg #[.string nm, .int .i64 1, .int .i64 file, .int .i64 bits, .int .i64 shift, .int .i64 plus, .slice A l k], .int .u64 (n : Int)] w fun e w' => e = .returned (.int .i64 (plus + (n : Int))) ∧ Fr w w' := by
 have hwn := conv_n (n := n) (by omega)
 have hwm : IntKind.i64.wrap (plus + (n : Int)) = plus + (n : Int) := wrap_in (by omega) (by omega)
 go_enter Tryz.func108, Tryz.ntmps108
 go_wp2
 go_ret
 exact ⟨rfl, Fr.alloc (Fr.refl w) _⟩
theorem valueOf_any {D : Ds} (c : Cl) (hc : clsB D c = true) (nm : ByteArray) (A : Option Addr) (l k : Nat) (n : Nat) (hn : n < 2 ^ c.bits.toNat) (w : World) :
   Calls Tryz.prog 108 #[.agg #[.string nm, .int .i64 c.kind, .int .i64 c.file, .int .i64 c.bits, .int .i64 c.shift, .int .i64 c.plus, .slice A l k], .int .u64 (n : Int)] w fun e w' => e = .returned (.int .i64 (valI c n)) ∧ Fr w w' := by
 obtain ⟨kind, file, bits, shift, plus, ex⟩ := c
 unfold clsB at hc
 simp only at hn
 by_cases h1 : kind = 1
 · subst h1
   simp only [if_true] at hc
   unfold regB at hc
   split at hc
   · cases hc
   · rename_i f hf
     simp only [Bool.and_eq_true, decide_eq_true_eq] at hc
     obtain ⟨⟨⟨⟨c1, c2⟩, c3⟩, c4⟩, c5⟩ := hc
     have hfb : f.1 ≤ 64 := by
       unfold fileD at hf
       split at hf
       · split at hf
         · split at hf
           · rename_i hb
             injection hf with hf; subst hf
             unfold fileB at hb; simp at hb; omega
           · cases hf
         · cases hf
       · cases hf
     have hp : (1 : Int) ≤ 2 ^ bits.toNat := by have := Int.pow_pos (m := bits.toNat) (show (0 : Int) < 2 by decide); omega
     have hn64 : n < 64 := Nat.lt_of_lt_of_le hn (by
       have : 2 ^ bits.toNat ≤ 2 ^ 6 := Nat.pow_le_pow_right (by decide) (by omega)
       omega)
     have e : valI ⟨1, file, bits, shift, plus, ex⟩ n = plus + (n : Int) := by unfold valI; rw [if_pos rfl]
     rw [e]
     exact valueOf_reg nm file bits shift plus A l k n c4 (by omega) hn64 w
 · rw [if_neg h1] at hc
   have key : ∀ most : Int, most ≤ 64 → numB ⟨kind, file, bits, shift, plus, ex⟩ most = true → ∃ b s : Nat, bits = (b : Int) ∧ shift = (s : Int) ∧ 1 ≤ b ∧ ((b + s : Nat) : Int) ≤ most := fun most hm h => by
     unfold numB at h
     simp only [Bool.and_eq_true, decide_eq_true_eq] at h
     exact ⟨bits.toNat, shift.toNat, by omega, by omega, by omega, by omega⟩
   by_cases h2 : kind = 2
   · subst h2
     rw [if_pos rfl] at hc
     obtain ⟨b, s, rfl, rfl, h3, h4⟩ := key 62 (by decide) hc
     have e : valI ⟨2, file, (b : Int), (s : Int), plus, ex⟩ n = (n : Int) * 2 ^ s := by unfold valI; rw [if_neg (by simp), if_pos rfl]; rfl
     rw [e]
     exact valueOf_uns nm file plus b s A l k n (by omega) hn w
   · rw [if_neg h2] at hc
     split at hc
     · obtain ⟨b, s, rfl, rfl, h3, h4⟩ := key 64 (by decide) hc
       have e : valI ⟨kind, file, (b : Int), (s : Int), plus, ex⟩ n = sgnN b n * 2 ^ s := by unfold valI; rw [if_neg h1, if_neg h2]; rfl
       rw [e]
       exact valueOf_sgn nm kind file plus b s A l k n h1 h2 h3 (by omega) hn w
     · cases hc
def RelA {α : Type} (w : World) (dv : List Value) (l : List α) (P : α → Bool) (i : Value) (wr : World) : Prop := ∃ j : Nat, j ≤ l.length ∧ i = .int .i64 (j : Int) ∧ Fr w wr ∧ BlkAt wr w.heap.size dv ∧ (l.take j).all P = true
theorem all_no {α : Type} {l : List α} {P : α → Bool} {j : Nat} (h : j < l.length) (hp : P l[j] = false) : l.all P = false := by
 rw [List.all_eq_false]; exact ⟨l[j], List.getElem_mem h, by simp [hp]⟩
theorem all_next {α : Type} {l : List α} {P : α → Bool} {j : Nat} (h : j < l.length) (ha : (l.take j).all P = true) (hp : P l[j] = true) : (l.take (j + 1)).all P = true := by
 rw [List.take_succ_eq_append_getElem h, List.all_append, ha]; simp [hp]
theorem all_end {α : Type} {l : List α} {P : α → Bool} (ha : (l.take l.length).all P = true) : l.all P = true := by rwa [List.take_length] at ha
theorem alB_no {D : Ds} {x : Al} (h : plB x.file D.files.length = false) : alB D x = false := by simp [alB, h]
theorem alB_at {D : Ds} {k : Nat} {nu : Int} (h : k < D.files.length) : alB D ⟨(k : Int), nu⟩ = (decide (0 ≤ nu) && decide (nu < (D.files[k]).1)) := by simp [alB, plB_nat, h]
set_option maxHeartbeats 6400000 in
set_option maxRecDepth 100000 in
theorem regsThere_any {w : World} {D : Ds} {v : Array Value} (hD : DescAt w D v) (L : Option Addr) (l : List Al) (c : Nat) (hL : RowOf AlAt 3 w L l) (hsm : l.length ≤ maxLen) :
   Calls Tryz.prog 47 #[.agg v, .slice L l.length c] w fun e w' => e = .returned (.bool (l.all (alB D))) ∧ Fr w w' := by
 obtain ⟨s0, Fa, Ba, Ga, Ca, Ma, Ra, Ua, Xa, Ka, Na, Pa, fc, bc, gc, cc, mc, rc, uc, xc, kc, nl, nc, pc, rfl, h1, h2, h3, h4, h5, h6, h7, h8, h9⟩ := hD
 have hsm : l.length ≤ 9223372036854775807 := Nat.le_trans hsm (by decide)
 have HF := Lib.hid h1
 have HL := Lib.hid hL
 clear h1 h2 h3 h4 h5 h6 h7 h8 h9 hL
 go_enter Tryz.func47, Tryz.ntmps47
 go_wp2
 go_loopw [9] (fun i wr => RelA w [.string s0, .int .i64 D.order, .slice Fa D.files.length fc, .slice Ba D.als.length bc, .slice Ga D.nflags gc, .slice Ca D.cls.length cc, .slice Ma D.fms.length mc, .slice Ra D.rels.length rc, .slice Ua D.uses.length uc, .slice Xa D.rxs.length xc, .slice Ka D.mcs.length kc, .slice Na nl nc, .slice Pa D.regs.length pc] l (alB D) i wr) (fun i _ => l.length - (intOf i).toNat)
 case atStart => exact ⟨0, by omega, rfl, Fr.alloc (Fr.refl w) _, BlkAt.alloc, by simp⟩
 case round =>
   obtain ⟨j, hj, rfl, hf, hB, hal⟩ := hrel
   have HFr := Lib.hid hf
   have HB := Lib.hid hB
   have HA := Lib.hid hal
   have d2 := hB 2 _ rfl
   have zb := lt_of_cell d2
   by_cases hlt : j < l.length
   · obtain ⟨bl, ol, rfl, n0, c0, w1, c1, w2, c2⟩ := (HL.out.fr fun _ _ _ x => x.fr hf).at hlt
     rw [Nat.mul_comm 3 j] at c0 c1 c2
     have HX := Lib.hid (fun (h : alB D l[j] = false) => all_no hlt h)
     have HY := Lib.hid (fun (h : alB D l[j] = true) => all_next hlt hal h)
     generalize l[j] = x at *
     obtain ⟨fi, nu⟩ := x
     simp only at c0 c1 c2 w1 w2
     have hji : (j : Int) < (l.length : Int) := by omega
     have zl := lt_of_cell c0
     have z1 : bl < wr.heap.size + 1 := by omega
     have z2 : w.heap.size < wr.heap.size + 1 := by omega
     clear hal hB hj
     cases hp : plB fi D.files.length with
     | false =>
       have HP := Lib.hid (fun A c w => hp ▸ filePlace_any fi A D.files.length c w)
       have H0 := Lib.hid (HX.out (alB_no hp))
       clear hp hf w1 w2 HX HY
       go_wp2
       go_quiet ((go_at_call 75; refine Calls.quiet_of_same (HP.out _ _ _)))
       go_wp2
       go_ret
       exact ⟨ret_bool (by rw [H0.out]), Fr.drewN (Fr.alloc HFr.out _) _⟩
     | true =>
       have HP := Lib.hid (fun A c w => hp ▸ filePlace_any fi A D.files.length c w)
       obtain ⟨k, rfl, hk⟩ := plB_ex hp
       obtain ⟨bf, of, rfl, nf, g0, g1, g2, g3⟩ := (HF.out.fr fun _ _ _ x => x.fr hf).at hk
       rw [Nat.mul_comm 4 k] at g0 g1 g2 g3
       have hki : (k : Int) < (D.files.length : Int) := by omega
       rw [alB_at hk] at HX HY
       generalize D.files[k] = f at *
       obtain ⟨f1, f2, f3⟩ := f
       have zf := lt_of_cell g0
       have z3 : bf < wr.heap.size + 1 := by omega
       clear hp hf w1 w2 g2 g3 g0
       by_cases hn : nu < 0
       · have hd1 : decide (nu < 0) = true := by simp [hn]
         have H0 := Lib.hid (HX.out (by simp; omega))
         clear HX HY
         go_wp2
         go_quiet ((go_at_call 75; refine Calls.quiet_of_same (HP.out _ _ _)))
         go_wp2
         go_ret
         exact ⟨ret_bool (by rw [H0.out]), Fr.drewN (Fr.alloc HFr.out _) _⟩
       · have hd1 : decide (nu < 0) = false := by simp [hn]
         by_cases hm : f1 ≤ nu
         · have hd2 : decide (f1 ≤ nu) = true := by simp [hm]
           have H0 := Lib.hid (HX.out (by simp; omega))
           clear HX HY
           go_wp2
           go_quiet ((go_at_call 75; refine Calls.quiet_of_same (HP.out _ _ _)))
           go_wp2
           go_ret
           exact ⟨ret_bool (by rw [H0.out]), Fr.drewN (Fr.alloc HFr.out _) _⟩
         · have hd2 : decide (f1 ≤ nu) = false := by simp [hm]
           have H0 := Lib.hid (HY.out (by simp; omega))
           clear HX HY
           go_wp2
           go_quiet ((go_at_call 75; refine Calls.quiet_of_same (HP.out _ _ _)))
           go_wp2
           go_roundw
           case rel => exact ⟨j + 1, by omega, by go_num, Fr.drewN (Fr.alloc HFr.out _) _, HB.out.fr (Fr.drewN (Fr.alloc (Fr.refl _) _) _), H0.out⟩
           case measure => simp [intOf]; omega
   · obtain rfl : j = l.length := by omega
     have H0 := Lib.hid (all_end hal)
     clear hal
     go_wp2
     go_ret
     exact ⟨ret_bool (by rw [H0.out]), HFr.out⟩
end Go.Proofs.YtdipnhghdajplaaGreatDoor
namespace Go.Proofs.YtdipnhghdajplaaGreatDoor
open Go.RowKit
set_option linter.unusedSimpArgs false
set_option linter.unusedVariables false
def havB (E : Env) (ks : List Tm) (ws : List Int) : Bool := decide (ks.length = ws.length) && (ks.zip ws).all fun x => decide (widT E x.1 = x.2)
mutual
def effB (E : Env) : Tm → Bool
 | .node op wd a b ks => if op = 31 then decide (0 < regW E a b) && havB E ks [regW E a b] else if op = 32 then plB a E.nflags && havB E ks [1] else if op = 33 then memB wd && havB E ks [64, wd]
   else if op = 34 then havB E ks [64] else if op = 35 then decide (1 ≤ a) && decide (a ≤ 15) && havB E ks [] else if op = 36 then havB E ks [] else if op = 37 then effK E ks else false
def effK (E : Env) : List Tm → Bool
 | [] => false
 | k :: r => havB E [k] [1] && effL E r
def effL (E : Env) : List Tm → Bool
 | [] => true
 | t :: r => effB E t && effL E r
end
theorem effL_all (E : Env) : ∀ l : List Tm, effL E l = l.all (effB E)
 | [] => by unfold effL; rfl
 | t :: r => by unfold effL; rw [effL_all E r]; rfl
def IntC (w : World) (b o : Nat) (x : Int) : Prop := w.cell? ⟨b, o, none⟩ = some (.int .i64 x)
theorem IntC.fr {w w' : World} {b o : Nat} {x : Int} (h : IntC w b o x) (k : Fr w w') : IntC w' b o x := k.get h
section
variable {E : Env} {Fa Ca Aa Ga Ma : Option Addr} {sb : Nat} {n0 n1 n3 n7 n8 n9 n10 n11 n12 : Value} {fc gc cc ml mc ac : Nat}
def RelH (w : World) (l : List (Tm × Int)) (P : Tm × Int → Bool) (i : Value) (wr : World) : Prop := ∃ j : Nat, j ≤ l.length ∧ i = .int .i64 (j : Int) ∧ Fr w wr ∧ (l.take j).all P = true
set_option maxHeartbeats 6400000 in
set_option maxRecDepth 100000 in
theorem have_any {w : World} (S : BlkAt w sb [n0, n1, .slice Fa E.files.length fc, n3, .slice Ga E.nflags gc, .slice Ca E.classes.length cc, .slice Ma ml mc, n7, n8, n9, n10, n11, n12, .slice Aa E.args.length ac]) (hE : EnvAt E w Fa Ca Aa) (ks : List Tm) (A : Option Addr) (c : Nat) (hT : TmL w A ks)
   (ws : List Int) (W : Option Addr) (c2 : Nat) (hW : RowOf IntC 1 w W ws) (hl2 : ws.length ≤ 2) :
   Calls Tryz.prog 111 #[.pointer (some ⟨sb, 0, none⟩), .slice A ks.length c, .slice W ws.length c2] w fun e w' => e = .returned (.bool (havB E ks ws)) ∧ Fr w w' := by
 have HS := Lib.hid S
 have HE := Lib.hid hE
 have HT := Lib.hid hT
 have HW := Lib.hid hW
 clear S hE hT hW
 by_cases hl : ks.length = ws.length
 · have HR := Lib.hid (show havB E ks ws = (ks.zip ws).all (fun x => decide (widT E x.1 = x.2)) by simp [havB, hl])
   have hne : ((ks.length : Int) != (ws.length : Int)) = false := by simp [hl]
   have HZ := Lib.hid (show (ks.zip ws).length = ws.length by simp [hl])
   have HL := Lib.hid hl
   clear hl
   go_enter Tryz.func111, Tryz.ntmps111
   go_wp2
   go_loopw [16] (fun i wr => RelH w (ks.zip ws) (fun x => decide (widT E x.1 = x.2)) i wr) (fun i _ => ws.length - (intOf i).toNat)
   case atStart => exact ⟨0, by omega, rfl, Fr.refl w, by simp⟩
   case round =>
     obtain ⟨j, hj, rfl, hf, hal⟩ := hrel
     rw [HZ.out] at hj
     have HF := Lib.hid hf
     by_cases hlt : j < ws.length
     · have hlk : j < ks.length := by rw [HL.out]; exact hlt
       have hlz : j < (ks.zip ws).length := by rw [HZ.out]; exact hlt
       obtain ⟨b', o', rfl, ht⟩ := (TmL.fr hf HT.out).elem j hlk
       obtain ⟨b2, o2, rfl, hw2⟩ := (HW.out.fr fun _ _ _ x => x.fr hf).at hlt
       have hzj : (ks.zip ws)[j] = (ks[j], ws[j]) := List.getElem_zip
       have HX := Lib.hid (fun h : decide (widT E ks[j] = ws[j]) = false => all_no (P := fun x : Tm × Int => decide (widT E x.1 = x.2)) hlz (by rw [hzj]; exact h))
       have HY := Lib.hid (fun h : decide (widT E ks[j] = ws[j]) = true => all_next (P := fun x : Tm × Int => decide (widT E x.1 = x.2)) hlz hal (by rw [hzj]; exact h))
       rw [Nat.mul_comm 5 j] at ht
       rw [Nat.one_mul] at hw2
       generalize ws[j] = y at *
       generalize ks[j] = x at *
       obtain ⟨op2, wd2, a2, b2', ks2⟩ := x
       unfold TmT at ht
       obtain ⟨A2, cc2, hc2, h0, h1, h2, h3, h4, hkk⟩ := ht
       have hw2 : wr.cell? ⟨b2, o2 + j, none⟩ = some (.int .i64 y) := hw2
       have hji : (j : Int) < (ws.length : Int) := by omega
       have hjk : (j : Int) < (ks.length : Int) := by omega
       have HC := Lib.hid (width_any (HS.out.fr hf) (HE.out.fr hf) op2 wd2 a2 b2' ks2 A2 cc2 hkk)
       generalize widT E (.node op2 wd2 a2 b2' ks2) = v at *
       by_cases hq : v = y
       · have H1 := Lib.hid (HY.out (by simp [hq]))
         have hvn : (v != y) = false := by simp [hq]
         clear hf hal hj hkk HX HY hzj hq
         go_wp2_with (go_at_call 143; refine HC.out.mono ?_; rintro e w4 ⟨rfl, hf4⟩; have HF4 := Lib.hid hf4; clear hf4)
         go_roundw
         case rel => exact ⟨j + 1, by rw [HZ.out]; omega, by go_num, HF.out.call HF4.out, H1.out⟩
         case measure => simp [intOf]; omega
       · have H1 := Lib.hid (HX.out (by simp [hq]))
         have hvn : (v != y) = true := by simp [hq]
         clear hf hal hj hkk HX HY hzj hq
         go_wp2_with (go_at_call 143; refine HC.out.mono ?_; rintro e w4 ⟨rfl, hf4⟩; have HF4 := Lib.hid hf4; clear hf4)
         go_ret
         exact ⟨ret_bool (by rw [HR.out, H1.out]), HF.out.call HF4.out⟩
     · obtain rfl : j = ws.length := by omega
       have H1 := Lib.hid (show (ks.zip ws).all (fun x => decide (widT E x.1 = x.2)) = true by
         rw [← HZ.out, List.take_length] at hal; exact hal)
       clear hf hal hj
       go_wp2
       go_ret
       exact ⟨ret_bool (by rw [HR.out, H1.out]), HF.out⟩
 · have HR := Lib.hid (show havB E ks ws = false by simp [havB, hl])
   have hne : ((ks.length : Int) != (ws.length : Int)) = true := by simp; omega
   go_enter Tryz.func111, Tryz.ntmps111
   go_wp2
   go_ret
   exact ⟨ret_bool (by rw [HR.out]), Fr.refl w⟩
end
end Go.Proofs.YtdipnhghdajplaaGreatDoor
namespace Go.Proofs.YtdipnhghdajplaaGreatDoor
open Go.RowKit
set_option linter.unusedSimpArgs false
set_option linter.unusedVariables false
theorem one_shl : ∀ r : Fin 64, IntKind.u64.wrap ((1 : Int) * 2 ^ r.val) = ((2 ^ r.val : Nat) : Int) := by decide +kernel
theorem one_shl2 : ∀ r : Fin 64, IntKind.u64.wrap ((2 : Int) ^ r.val) = ((2 ^ r.val : Nat) : Int) := by decide +kernel
theorem pow_u64 : ∀ r : Fin 64, 2 ^ r.val < 18446744073709551616 := by decide +kernel
def addN (x p : Nat) : Nat := x ||| 2 ^ (p % 64)
set_option maxHeartbeats 3200000 in
set_option maxRecDepth 100000 in
theorem add_any (lb o x0 x1 : Nat) (h0 : x0 < 18446744073709551616) (h1 : x1 < 18446744073709551616) (p : Nat) (hp : p < 128) (w : World) (c0 : w.cell? ⟨lb, o, none⟩ = some (.int .u64 (x0 : Int))) (c1 : w.cell? ⟨lb, o + 1, none⟩ = some (.int .u64 (x1 : Int)))
   (f0 : w.frozen? ⟨lb, o, none⟩ = false) (f1 : w.frozen? ⟨lb, o + 1, none⟩ = false) :
   Calls Tryz.prog 109 #[.pointer (some ⟨lb, o, none⟩), .int .i64 (p : Int)] w fun e w' => e = .returned (.tuple #[]) ∧ ∃ n, w' = (w.drewN n).setCell ⟨lb, o + p / 64, none⟩ (.int .u64 (addN (if p < 64 then x0 else x1) p : Int)) := by
 have zl := lt_of_cell c0
 by_cases hq : p < 64
 · have e1 : Int.tdiv (p : Int) 64 = 0 := by rw [Int.tdiv_eq_ediv_of_nonneg (by omega)]; omega
   have e2 : Int.tmod (p : Int) 64 = (p : Int) := by rw [Int.tmod_eq_emod_of_nonneg (by omega)]; omega
   have em : p % 64 = p := by omega
   have ed : p / 64 = 0 := by omega
   have HA := Lib.hid (show addN (if p < 64 then x0 else x1) p = x0 ||| 2 ^ p by rw [if_pos hq]; unfold addN; rw [em])
   rw [HA.out, ed, Nat.add_zero]
   have hw0 : IntKind.i64.wrap 0 = 0 := by decide
   have hwp : IntKind.i64.wrap (p : Int) = (p : Int) := by simp [IntKind.wrap, IntKind.bits, IntKind.signed]; omega
   have hs := one_shl ⟨p, hq⟩
   have hs2 := one_shl2 ⟨p, hq⟩
   have ho := u64_or_nat x0 (2 ^ p) h0 (pow_u64 ⟨p, hq⟩)
   simp only at hs hs2
   clear em ed HA
   generalize x0 ||| 2 ^ p = y at *
   generalize hz : 2 ^ p = z at *
   go_enter Tryz.func109, Tryz.ntmps109
   go_wp2
   go_still_tail 12, (by kernel_rfl)
   change wpList _ _ _ _ _ w.drew
   go_wp2
   go_end0
   exact ⟨rfl, 1, rfl⟩
 · obtain ⟨r, rfl⟩ : ∃ r, p = 64 + r := ⟨p - 64, by omega⟩
   have hr : r < 64 := by omega
   have e1 : Int.tdiv ((64 : Int) + (r : Int)) 64 = 1 := by rw [Int.tdiv_eq_ediv_of_nonneg (by omega)]; omega
   have e2 : Int.tmod ((64 : Int) + (r : Int)) 64 = (r : Int) := by rw [Int.tmod_eq_emod_of_nonneg (by omega)]; omega
   have em : (64 + r) % 64 = r := by omega
   have ed : (64 + r) / 64 = 1 := by omega
   have HA := Lib.hid (show addN (if 64 + r < 64 then x0 else x1) (64 + r) = x1 ||| 2 ^ r by rw [if_neg hq]; unfold addN; rw [em])
   rw [HA.out, ed]
   have hw0 : IntKind.i64.wrap 1 = 1 := by decide
   have hwp : IntKind.i64.wrap (r : Int) = (r : Int) := by simp [IntKind.wrap, IntKind.bits, IntKind.signed]; omega
   have hs := one_shl ⟨r, hr⟩
   have hs2 := one_shl2 ⟨r, hr⟩
   have ho := u64_or_nat x1 (2 ^ r) h1 (pow_u64 ⟨r, hr⟩)
   simp only at hs hs2
   clear em ed HA
   generalize x1 ||| 2 ^ r = y at *
   generalize hz : 2 ^ r = z at *
   go_enter Tryz.func109, Tryz.ntmps109
   go_wp2
   go_still_tail 12, (by kernel_rfl)
   change wpList _ _ _ _ _ w.drew
   go_wp2
   go_end0
   exact ⟨rfl, 1, rfl⟩
def hasN (x0 x1 p : Nat) : Bool := (if p < 64 then x0 else x1).testBit (p % 64)
def litF (z0 z1 u0 u1 : Nat) (s : Option (Nat × Nat)) (p : Int) : Option (Nat × Nat) := match s with
 | none => none
 | some (k, b) => if hasN u0 u1 p.toNat then some (k + 1, b ||| 2 ^ k) else if hasN z0 z1 p.toNat then some (k + 1, b) else none
def litO (z0 z1 u0 u1 : Nat) (at_ : List Int) : Option (Nat × Nat) := at_.foldl (litF z0 z1 u0 u1) (some (0, 0))
def litV (s : Option (Nat × Nat)) : Value := match s with
 | none => .tuple #[.int .u64 0, .bool false]
 | some (_, b) => .tuple #[.int .u64 (b : Int), .bool true]
theorem litF_none (z0 z1 u0 u1 : Nat) : ∀ l : List Int, l.foldl (litF z0 z1 u0 u1) none = none
 | [] => rfl
 | p :: r => litF_none z0 z1 u0 u1 r
theorem litF_take {z0 z1 u0 u1 : Nat} {l : List Int} {j : Nat} (h : j < l.length) (s : Option (Nat × Nat)) : (l.take (j + 1)).foldl (litF z0 z1 u0 u1) s = litF z0 z1 u0 u1 ((l.take j).foldl (litF z0 z1 u0 u1) s) l[j] := by
 rw [List.take_succ_eq_append_getElem h, List.foldl_append]; rfl
theorem litF_dead {z0 z1 u0 u1 : Nat} {l : List Int} {j : Nat} (h : j ≤ l.length) {s : Option (Nat × Nat)} (hn : (l.take j).foldl (litF z0 z1 u0 u1) s = none) : l.foldl (litF z0 z1 u0 u1) s = none := by
 have := congrArg (fun l => l.foldl (litF z0 z1 u0 u1) s) (List.take_append_drop j l)
 simp only [List.foldl_append] at this
 rw [← this, hn, litF_none]
theorem litF_bd {z0 z1 u0 u1 : Nat} : ∀ (l : List Int) (k b k' b' : Nat), b < 2 ^ k → l.foldl (litF z0 z1 u0 u1) (some (k, b)) = some (k', b') → k' = k + l.length ∧ b' < 2 ^ k'
 | [], k, b, k', b', hb, h => by
   simp only [List.foldl_nil, Option.some.injEq, Prod.mk.injEq] at h
   obtain ⟨rfl, rfl⟩ := h
   exact ⟨rfl, hb⟩
 | p :: r, k, b, k', b', hb, h => by
   rw [List.foldl_cons] at h
   have hk : b < 2 ^ (k + 1) := Nat.lt_of_lt_of_le hb (Nat.pow_le_pow_right (by decide) (by omega))
   have hk2 : b ||| 2 ^ k < 2 ^ (k + 1) := Nat.or_lt_two_pow hk (Nat.pow_lt_pow_right (by decide) (by omega))
   rw [show litF z0 z1 u0 u1 (some (k, b)) p = (if hasN u0 u1 p.toNat then some (k + 1, b ||| 2 ^ k) else if hasN z0 z1 p.toNat then some (k + 1, b) else none) from rfl] at h
   split at h
   · obtain ⟨h1, h2⟩ := litF_bd r (k + 1) _ k' b' hk2 h
     exact ⟨by rw [List.length_cons]; omega, h2⟩
   · split at h
     · obtain ⟨h1, h2⟩ := litF_bd r (k + 1) _ k' b' hk h
       exact ⟨by rw [List.length_cons]; omega, h2⟩
     · rw [litF_none] at h; cases h
def RelL (z0 z1 u0 u1 : Nat) (at_ : List Int) (w : World) (ly : List Value) (i bv : Value) (wr : World) : Prop := ∃ (j b : Nat), j ≤ at_.length ∧ i = .int .i64 (j : Int) ∧ bv = .int .u64 (b : Int) ∧ Fr w wr ∧ BlkAt wr w.heap.size ly ∧ (at_.take j).foldl (litF z0 z1 u0 u1) (some (0, 0)) = some (j, b)
set_option maxHeartbeats 6400000 in
set_option maxRecDepth 100000 in
theorem literalBits_any (z0 z1 u0 u1 : Nat) (hz0 : z0 < 18446744073709551616) (hz1 : z1 < 18446744073709551616) (hu0 : u0 < 18446744073709551616) (hu1 : u1 < 18446744073709551616) (O : Option Addr) (ol oc : Nat) (at_ : List Int) (hat : ∀ p ∈ at_, 0 ≤ p ∧ p < 128) (hlen : at_.length ≤ 64)
   (A : Option Addr) (c : Nat) {w : World} (hA : RowOf IntC 1 w A at_) :
   Calls Tryz.prog 107 #[.agg #[.int .u64 (z0 : Int), .int .u64 (z1 : Int), .int .u64 (u0 : Int), .int .u64 (u1 : Int), .slice O ol oc], .slice A at_.length c] w fun e w' =>
     e = .returned (litV (litO z0 z1 u0 u1 at_)) ∧ Fr w w' := by
 have HA := Lib.hid hA
 have HAT := Lib.hid hat
 clear hA hat
 obtain ⟨res, hres⟩ : ∃ res, litO z0 z1 u0 u1 at_ = res := ⟨_, rfl⟩
 rw [hres]
 have HRES := Lib.hid hres
 clear hres
 go_enter Tryz.func107, Tryz.ntmps107
 go_wp2
 go_loopw [11, 6] (fun i bv wr => RelL z0 z1 u0 u1 at_ w [.int .u64 (z0 : Int), .int .u64 (z1 : Int), .int .u64 (u0 : Int), .int .u64 (u1 : Int), .slice O ol oc] i bv wr) (fun i _ _ => at_.length - (intOf i).toNat)
 case atStart => exact ⟨0, 0, by omega, rfl, rfl, Fr.alloc (Fr.refl w) _, BlkAt.alloc, rfl⟩
 case round =>
   obtain ⟨j, b, hj, rfl, rfl, hf, hB, hst⟩ := hrel
   have hbb := (litF_bd (at_.take j) 0 0 j b (by decide) hst).2
   have HF := Lib.hid hf
   have HB := Lib.hid hB
   have HST := Lib.hid hst
   have a0 := hB 0 _ rfl
   have a1 := hB 1 _ rfl
   have a2 := hB 2 _ rfl
   have a3 := hB 3 _ rfl
   have zw := lt_of_cell a0
   by_cases hlt : j < at_.length
   · obtain ⟨ba, oa, rfl, hx⟩ := (HA.out.fr fun _ _ _ x => x.fr hf).at hlt
     rw [Nat.one_mul] at hx
     have hp := HAT.out _ (List.getElem_mem hlt)
     have HTK := Lib.hid (litF_take (z0 := z0) (z1 := z1) (u0 := u0) (u1 := u1) hlt (some (0, 0)))
     rw [hst] at HTK
     have HDE := Lib.hid (fun h => litF_dead (z0 := z0) (z1 := z1) (u0 := u0) (u1 := u1) (l := at_) (j := j + 1) (by omega) (s := some (0, 0)) h)
     generalize at_[j] = x at *
     obtain ⟨p, rfl⟩ := Int.eq_ofNat_of_zero_le hp.1
     have hx : wr.cell? ⟨ba, oa + j, none⟩ = some (.int .i64 (p : Int)) := hx
     have hp128 : p < 128 := by omega
     have hji : (j : Int) < (at_.length : Int) := by omega
     have HU := Lib.hid (fun w => has_any u0 u1 hu0 hu1 p hp128 w)
     have HZ := Lib.hid (fun w => has_any z0 z1 hz0 hz1 p hp128 w)
     have HLF := Lib.hid (show litF z0 z1 u0 u1 (some (j, b)) (p : Int) = (if hasN u0 u1 p then some (j + 1, b ||| 2 ^ j) else if hasN z0 z1 p then some (j + 1, b) else none) from rfl)
     rw [show (if p < 64 then u0 else u1).testBit (p % 64) = hasN u0 u1 p from rfl] at HU
     rw [show (if p < 64 then z0 else z1).testBit (p % 64) = hasN z0 z1 p from rfl] at HZ
     have hj63 : j < 64 := by omega
     have hs := one_shl ⟨j, hj63⟩
     have hs2 := one_shl2 ⟨j, hj63⟩
     have hb64 : b < 18446744073709551616 := Nat.lt_trans hbb (pow_u64 ⟨j, hj63⟩)
     have ho := u64_or_nat b (2 ^ j) hb64 (pow_u64 ⟨j, hj63⟩)
     have HO := Lib.hid ho
     simp only at hs hs2
     clear hf hB hst hj hp hbb ho
     cases hu : hasN u0 u1 p with
     | true =>
       have HR := Lib.hid (show (at_.take (j + 1)).foldl (litF z0 z1 u0 u1) (some (0, 0)) = some (j + 1, b ||| 2 ^ j) by rw [HTK.out, HLF.out, hu]; rfl)
       rw [hu] at HU
       have ho := HO.out
       clear hu HTK HDE HLF HO
       generalize b ||| 2 ^ j = b2 at *
       generalize hz : 2 ^ j = z at *
       go_wp2_with (go_at_call 141; refine (HU.out _).mono ?_; rintro e w4 ⟨rfl, hf4⟩; have HF4 := Lib.hid hf4; clear hf4)
       go_roundw
       case rel => exact ⟨j + 1, b2, by omega, by go_num, by go_num, HF.out.call HF4.out, HB.out.fr HF4.out, HR.out⟩
       case measure => simp [intOf]; omega
     | false =>
       cases hz : hasN z0 z1 p with
       | true =>
         have HR := Lib.hid (show (at_.take (j + 1)).foldl (litF z0 z1 u0 u1) (some (0, 0)) = some (j + 1, b) by rw [HTK.out, HLF.out, hu, hz]; rfl)
         rw [hu] at HU
         rw [hz] at HZ
         clear hu hz HTK HDE HLF HO hs hs2
         go_wp2_with fail
         refine (HU.out _).mono ?_
         rintro e w4 ⟨rfl, hf4⟩
         have HF4 := Lib.hid hf4
         have b0 := HB.out.fr hf4 0 _ rfl
         have b1 := HB.out.fr hf4 1 _ rfl
         clear hf4
         go_wp2_with fail
         refine (HZ.out _).mono ?_
         rintro e w5 ⟨rfl, hf5⟩
         have HF5 := Lib.hid (HF4.out.call hf5)
         clear hf5
         go_wp2_with fail
         go_roundw
         case rel => exact ⟨j + 1, b, by omega, by go_num, rfl, HF.out.call HF5.out, HB.out.fr HF5.out, HR.out⟩
         case measure => simp [intOf]; omega
       | false =>
         have HDD := Lib.hid (HDE.out (by rw [HTK.out, HLF.out, hu, hz]; rfl))
         have HR := Lib.hid (show res = none by rw [← HRES.out]; exact HDD.out)
         rw [hu] at HU
         rw [hz] at HZ
         clear hu hz HTK HDE HLF HO hs hs2 HDD
         go_wp2_with fail
         refine (HU.out _).mono ?_
         rintro e w4 ⟨rfl, hf4⟩
         have HF4 := Lib.hid hf4
         have b0 := HB.out.fr hf4 0 _ rfl
         have b1 := HB.out.fr hf4 1 _ rfl
         clear hf4
         go_wp2_with fail
         refine (HZ.out _).mono ?_
         rintro e w5 ⟨rfl, hf5⟩
         have HF5 := Lib.hid (HF4.out.call hf5)
         clear hf5
         go_wp2
         go_ret2
         exact ⟨by rw [HR.out]; rfl, HF.out.call HF5.out⟩
   · obtain rfl : j = at_.length := by omega
     rw [List.take_length] at hst
     have HR := Lib.hid (show res = some (at_.length, b) by rw [← HRES.out]; exact hst)
     clear hf hB hst hj hbb HST
     go_wp2
     go_ret2
     exact ⟨by rw [HR.out]; rfl, HF.out⟩
set_option maxHeartbeats 6400000 in
theorem numbersRight_any (n0 : ByteArray) (kd fi bi sh pl : Int) (A : Option Addr) (l c : Nat) (ex : List Int) (most : Int) (h0 : 0 ≤ most) (h1 : most ≤ 64) (w : World) :
   Calls Tryz.prog 78 #[.agg #[.string n0, .int .i64 kd, .int .i64 fi, .int .i64 bi, .int .i64 sh, .int .i64 pl, .slice A l c], .int .i64 most] w fun e w' => e = .returned (.bool (numB ⟨kd, fi, bi, sh, pl, ex⟩ most)) ∧ Fr w w' := by
 go_enter Tryz.func78, Tryz.ntmps78
 go_wp2
 all_goals (go_ret; exact ⟨bool_iff (by simp [numB]; omega), Fr.alloc (Fr.refl w) _⟩)
theorem fileD_file {D : Ds} {a : Int} {f : Int × Int × Int} (h : fileD D a = some f) : ∃ j : Nat, ∃ hj : j < D.files.length, a = j ∧ D.files[j] = f ∧ fileB f = true :=
 fileO_file (E := D.env []) h
set_option maxHeartbeats 12800000 in
set_option maxRecDepth 100000 in
theorem registersRight_any {w : World} {D : Ds} {v : Array Value} (hD : DescAt w D v) (n0 : ByteArray) (kd fi bi sh pl : Int) (A : Option Addr) (l c : Nat) (ex : List Int) (hpl : I64 pl) :
   Calls Tryz.prog 77 #[.agg v, .agg #[.string n0, .int .i64 kd, .int .i64 fi, .int .i64 bi, .int .i64 sh, .int .i64 pl, .slice A l c]] w fun e w' => e = .returned (.bool (regB D ⟨kd, fi, bi, sh, pl, ex⟩)) ∧ Fr w w' := by
 obtain ⟨s0, Fa, Ba, Ga, Ca, Ma, Ra, Ua, Xa, Ka, Na, Pa, fc, bc, gc, cc, mc, rc, uc, xc, kc, nl, nc, pc, rfl, h1, h2, h3, h4, h5, h6, h7, h8, h9⟩ := hD
 have HFR := Lib.hid (fun w1 (k : Fr w w1) => fileRight_any (E := D.env []) (Aa := none) (Ga := Ga) (Ma := Ma) (env_at (h1.fr fun _ _ _ x => x.fr k) (h3.fr fun _ _ _ x => x.fr k) (fun hl => absurd hl (by simp))) fi (.string s0) (.int .i64 D.order) (.slice Ba D.als.length bc) (.slice Ra D.rels.length rc) (.slice Ua D.uses.length uc) (.slice Xa D.rxs.length xc) (.slice Ka D.mcs.length kc) (.slice Na nl nc) (.slice Pa D.regs.length pc) fc gc cc D.fms.length mc)
 simp only [Ds.env, List.length_map] at HFR
 have HB := Lib.hid (show BlkAt ((w.alloc (.cells #[.string s0, .int .i64 D.order, .slice Fa D.files.length fc, .slice Ba D.als.length bc, .slice Ga D.nflags gc, .slice Ca D.cls.length cc, .slice Ma D.fms.length mc, .slice Ra D.rels.length rc, .slice Ua D.uses.length uc, .slice Xa D.rxs.length xc, .slice Ka D.mcs.length kc, .slice Na nl nc, .slice Pa D.regs.length pc] 33)).alloc (.cells #[.string n0, .int .i64 kd, .int .i64 fi, .int .i64 bi, .int .i64 sh, .int .i64 pl, .slice A l c] 64)) w.heap.size [.string s0, .int .i64 D.order, .slice Fa D.files.length fc, .slice Ba D.als.length bc, .slice Ga D.nflags gc, .slice Ca D.cls.length cc, .slice Ma D.fms.length mc, .slice Ra D.rels.length rc, .slice Ua D.uses.length uc, .slice Xa D.rxs.length xc, .slice Ka D.mcs.length kc, .slice Na nl nc, .slice Pa D.regs.length pc] from BlkAt.fr (by have := BlkAt.alloc (w := w) (t := 33) (cs := #[.string s0, .int .i64 D.order, .slice Fa D.files.length fc, .slice Ba D.als.length bc, .slice Ga D.nflags gc, .slice Ca D.cls.length cc, .slice Ma D.fms.length mc, .slice Ra D.rels.length rc, .slice Ua D.uses.length uc, .slice Xa D.rxs.length xc, .slice Ka D.mcs.length kc, .slice Na nl nc, .slice Pa D.regs.length pc]); simpa using this) (Fr.alloc (Fr.refl _) _))
 have HC := Lib.hid (show BlkAt ((w.alloc (.cells #[.string s0, .int .i64 D.order, .slice Fa D.files.length fc, .slice Ba D.als.length bc, .slice Ga D.nflags gc, .slice Ca D.cls.length cc, .slice Ma D.fms.length mc, .slice Ra D.rels.length rc, .slice Ua D.uses.length uc, .slice Xa D.rxs.length xc, .slice Ka D.mcs.length kc, .slice Na nl nc, .slice Pa D.regs.length pc] 33)).alloc (.cells #[.string n0, .int .i64 kd, .int .i64 fi, .int .i64 bi, .int .i64 sh, .int .i64 pl, .slice A l c] 64)) (w.heap.size + 1) [.string n0, .int .i64 kd, .int .i64 fi, .int .i64 bi, .int .i64 sh, .int .i64 pl, .slice A l c] from (by have := BlkAt.alloc (w := (w.alloc (.cells #[.string s0, .int .i64 D.order, .slice Fa D.files.length fc, .slice Ba D.als.length bc, .slice Ga D.nflags gc, .slice Ca D.cls.length cc, .slice Ma D.fms.length mc, .slice Ra D.rels.length rc, .slice Ua D.uses.length uc, .slice Xa D.rxs.length xc, .slice Ka D.mcs.length kc, .slice Na nl nc, .slice Pa D.regs.length pc] 33))) (t := 64) (cs := #[.string n0, .int .i64 kd, .int .i64 fi, .int .i64 bi, .int .i64 sh, .int .i64 pl, .slice A l c]); simpa using this))
 have HF0 := Lib.hid (show Fr w ((w.alloc (.cells #[.string s0, .int .i64 D.order, .slice Fa D.files.length fc, .slice Ba D.als.length bc, .slice Ga D.nflags gc, .slice Ca D.cls.length cc, .slice Ma D.fms.length mc, .slice Ra D.rels.length rc, .slice Ua D.uses.length uc, .slice Xa D.rxs.length xc, .slice Ka D.mcs.length kc, .slice Na nl nc, .slice Pa D.regs.length pc] 33)).alloc (.cells #[.string n0, .int .i64 kd, .int .i64 fi, .int .i64 bi, .int .i64 sh, .int .i64 pl, .slice A l c] 64)) from Fr.alloc (Fr.alloc (Fr.refl w) _) _)
 have HFI := Lib.hid h1
 clear h1 h2 h3 h4 h5 h6 h7 h8 h9
 have hfo : fileO { files := D.files, classes := D.cls.map fun c => (c.kind, c.file), nflags := D.nflags, args := [] } fi = fileD D fi := rfl
 rw [hfo] at HFR
 clear hfo
 cases hfd : fileD D fi with
 | none =>
   rw [hfd] at HFR
   have HR := Lib.hid (show regB D ⟨kd, fi, bi, sh, pl, ex⟩ = false by simp [regB, hfd])
   clear hfd
   go_enter Tryz.func77, Tryz.ntmps77
   go_wp2_with (go_at_call 45; refine (HFR.out _ HF0.out).mono ?_; rintro e w4 ⟨rfl, hf4⟩; have HF4 := Lib.hid hf4; clear hf4; have a0 := HB.out.fr HF4.out 0 _ rfl; have a1 := HB.out.fr HF4.out 1 _ rfl; have a2 := HB.out.fr HF4.out 2 _ rfl; have a3 := HB.out.fr HF4.out 3 _ rfl; have a4 := HB.out.fr HF4.out 4 _ rfl; have a5 := HB.out.fr HF4.out 5 _ rfl; have a6 := HB.out.fr HF4.out 6 _ rfl; have a7 := HB.out.fr HF4.out 7 _ rfl; have a8 := HB.out.fr HF4.out 8 _ rfl; have a9 := HB.out.fr HF4.out 9 _ rfl; have a10 := HB.out.fr HF4.out 10 _ rfl; have a11 := HB.out.fr HF4.out 11 _ rfl; have a12 := HB.out.fr HF4.out 12 _ rfl; have b0 := HC.out.fr HF4.out 0 _ rfl; have b1 := HC.out.fr HF4.out 1 _ rfl; have b2 := HC.out.fr HF4.out 2 _ rfl; have b3 := HC.out.fr HF4.out 3 _ rfl; have b4 := HC.out.fr HF4.out 4 _ rfl; have b5 := HC.out.fr HF4.out 5 _ rfl; have b6 := HC.out.fr HF4.out 6 _ rfl)
   go_ret
   exact ⟨ret_bool (by rw [HR.out]), HF0.out.call HF4.out⟩
 | some f =>
   rw [hfd] at HFR
   obtain ⟨k, hk, rfl, hkf, hfb⟩ := fileD_file hfd
   obtain ⟨bf, of, rfl, nf, g0, g1, g2, g3⟩ := HFI.out.at hk
   rw [Nat.mul_comm 4 k] at g0 g1
   rw [hkf] at g1
   have hki : (k : Int) < (D.files.length : Int) := by omega
   have hfl := lt_of_cell g0
   obtain ⟨f1, f2, f3⟩ := f
   have hf1 : 1 ≤ f1 ∧ f1 ≤ 64 := by simp [fileB] at hfb; omega
   have HR := Lib.hid (show regB D ⟨kd, (k : Int), bi, sh, pl, ex⟩ = (decide (1 ≤ bi) && decide (bi ≤ 6) && decide (sh = 0) && decide (0 ≤ pl) && decide (pl ≤ f1 - 2 ^ bi.toNat)) by simp [regB, hfd])
   have HG := Lib.hid g1
   clear hfd hkf hfb g0 g1 g2 g3 HFI
   by_cases ht : 1 ≤ bi ∧ bi ≤ 6 ∧ sh = 0 ∧ 0 ≤ pl
   · obtain ⟨t1, t2, t3, t4⟩ := ht
     subst t3
     have q1 : decide (bi < 1) = false := by simp; omega
     have q2 : decide (6 < bi) = false := by simp; omega
     have q3 : ((0 : Int) != 0) = false := rfl
     have q4 : decide (pl < 0) = false := by simp; omega
     have hsh : IntKind.i64.wrap (1 * 2 ^ bi.toNat) = 2 ^ bi.toNat := by
       have : bi = 1 ∨ bi = 2 ∨ bi = 3 ∨ bi = 4 ∨ bi = 5 ∨ bi = 6 := by omega
       rcases this with rfl | rfl | rfl | rfl | rfl | rfl <;> decide
     have hp : (0 : Int) < 2 ^ bi.toNat ∧ (2 : Int) ^ bi.toNat ≤ 64 := by
       have : bi = 1 ∨ bi = 2 ∨ bi = 3 ∨ bi = 4 ∨ bi = 5 ∨ bi = 6 := by omega
       rcases this with rfl | rfl | rfl | rfl | rfl | rfl <;> decide
     have hw2 : IntKind.i64.wrap (f1 - 2 ^ bi.toNat) = f1 - 2 ^ bi.toNat := by rw [IntKind.wrap_i64]; omega
     go_enter Tryz.func77, Tryz.ntmps77
     go_wp2_with (go_at_call 45; refine (HFR.out _ HF0.out).mono ?_; rintro e w4 ⟨rfl, hf4⟩; have HF4 := Lib.hid hf4; clear hf4; have a0 := HB.out.fr HF4.out 0 _ rfl; have a1 := HB.out.fr HF4.out 1 _ rfl; have a2 := HB.out.fr HF4.out 2 _ rfl; have a3 := HB.out.fr HF4.out 3 _ rfl; have a4 := HB.out.fr HF4.out 4 _ rfl; have a5 := HB.out.fr HF4.out 5 _ rfl; have a6 := HB.out.fr HF4.out 6 _ rfl; have a7 := HB.out.fr HF4.out 7 _ rfl; have a8 := HB.out.fr HF4.out 8 _ rfl; have a9 := HB.out.fr HF4.out 9 _ rfl; have a10 := HB.out.fr HF4.out 10 _ rfl; have a11 := HB.out.fr HF4.out 11 _ rfl; have a12 := HB.out.fr HF4.out 12 _ rfl; have b0 := HC.out.fr HF4.out 0 _ rfl; have b1 := HC.out.fr HF4.out 1 _ rfl; have b2 := HC.out.fr HF4.out 2 _ rfl; have b3 := HC.out.fr HF4.out 3 _ rfl; have b4 := HC.out.fr HF4.out 4 _ rfl; have b5 := HC.out.fr HF4.out 5 _ rfl; have b6 := HC.out.fr HF4.out 6 _ rfl; have g1 := (HF0.out.call HF4.out).get HG.out)
     go_quiet (fail)
     go_wp2
     go_ret
     exact ⟨bool_iff (by rw [HR.out]; simp; omega), Fr.drewN (HF0.out.call HF4.out) _⟩
   · have HR0 := Lib.hid (show regB D ⟨kd, (k : Int), bi, sh, pl, ex⟩ = false by rw [HR.out]; simp; omega)
     clear HR HG
     have ht2 : bi < 1 ∨ 6 < bi ∨ sh ≠ 0 ∨ pl < 0 := by omega
     clear ht
     go_enter Tryz.func77, Tryz.ntmps77
     go_wp2_with (go_at_call 45; refine (HFR.out _ HF0.out).mono ?_; rintro e w4 ⟨rfl, hf4⟩; have HF4 := Lib.hid hf4; clear hf4; have a0 := HB.out.fr HF4.out 0 _ rfl; have a1 := HB.out.fr HF4.out 1 _ rfl; have a2 := HB.out.fr HF4.out 2 _ rfl; have a3 := HB.out.fr HF4.out 3 _ rfl; have a4 := HB.out.fr HF4.out 4 _ rfl; have a5 := HB.out.fr HF4.out 5 _ rfl; have a6 := HB.out.fr HF4.out 6 _ rfl; have a7 := HB.out.fr HF4.out 7 _ rfl; have a8 := HB.out.fr HF4.out 8 _ rfl; have a9 := HB.out.fr HF4.out 9 _ rfl; have a10 := HB.out.fr HF4.out 10 _ rfl; have a11 := HB.out.fr HF4.out 11 _ rfl; have a12 := HB.out.fr HF4.out 12 _ rfl; have b0 := HC.out.fr HF4.out 0 _ rfl; have b1 := HC.out.fr HF4.out 1 _ rfl; have b2 := HC.out.fr HF4.out 2 _ rfl; have b3 := HC.out.fr HF4.out 3 _ rfl; have b4 := HC.out.fr HF4.out 4 _ rfl; have b5 := HC.out.fr HF4.out 5 _ rfl; have b6 := HC.out.fr HF4.out 6 _ rfl)
     all_goals first
       | (go_ret; exact ⟨ret_bool (by rw [HR0.out]), HF0.out.call HF4.out⟩)
       | (exfalso; simp_all; omega)
theorem clsAtB_no {D : Ds} {x : Int} (h : plB x D.cls.length = false) : clsAtB D x = false := by
 unfold clsAtB
 by_cases h0 : 0 ≤ x
 · rw [if_pos h0, List.getElem?_eq_none (by simp [plB, h0] at h; omega)]
 · rw [if_neg h0]
theorem clsAtB_at {D : Ds} {k : Nat} (h : k < D.cls.length) : clsAtB D (k : Int) = clsB D D.cls[k] := by
 unfold clsAtB
 rw [if_pos (by omega)]
 simp [h]
set_option maxHeartbeats 12800000 in
set_option maxRecDepth 100000 in
theorem classRight_any {w : World} {D : Ds} {v : Array Value} (hD : DescAt w D v) (x : Int) :
   Calls Tryz.prog 46 #[.agg v, .int .i64 x] w fun e w' => e = .returned (.bool (clsAtB D x)) ∧ Fr w w' := by
 have HD := Lib.hid hD
 obtain ⟨s0, Fa, Ba, Ga, Ca, Ma, Ra, Ua, Xa, Ka, Na, Pa, fc, bc, gc, cc, mc, rc, uc, xc, kc, nl, nc, pc, rfl, h1, h2, h3, h4, h5, h6, h7, h8, h9⟩ := hD
 have HB := Lib.hid (show BlkAt (w.alloc (.cells #[.string s0, .int .i64 D.order, .slice Fa D.files.length fc, .slice Ba D.als.length bc, .slice Ga D.nflags gc, .slice Ca D.cls.length cc, .slice Ma D.fms.length mc, .slice Ra D.rels.length rc, .slice Ua D.uses.length uc, .slice Xa D.rxs.length xc, .slice Ka D.mcs.length kc, .slice Na nl nc, .slice Pa D.regs.length pc] 33)) w.heap.size [.string s0, .int .i64 D.order, .slice Fa D.files.length fc, .slice Ba D.als.length bc, .slice Ga D.nflags gc, .slice Ca D.cls.length cc, .slice Ma D.fms.length mc, .slice Ra D.rels.length rc, .slice Ua D.uses.length uc, .slice Xa D.rxs.length xc, .slice Ka D.mcs.length kc, .slice Na nl nc, .slice Pa D.regs.length pc] from BlkAt.alloc)
 have HF0 := Lib.hid (show Fr w (w.alloc (.cells #[.string s0, .int .i64 D.order, .slice Fa D.files.length fc, .slice Ba D.als.length bc, .slice Ga D.nflags gc, .slice Ca D.cls.length cc, .slice Ma D.fms.length mc, .slice Ra D.rels.length rc, .slice Ua D.uses.length uc, .slice Xa D.rxs.length xc, .slice Ka D.mcs.length kc, .slice Na nl nc, .slice Pa D.regs.length pc] 33)) from Fr.alloc (Fr.refl w) _)
 cases hp : plB x D.cls.length with
 | false =>
   have HP := Lib.hid (fun A c w => hp ▸ classPlace_any x A D.cls.length c w)
   have HR := Lib.hid (clsAtB_no hp)
   clear hp h1 h2 h3 h4 h5 h6 h7 h8 h9
   go_enter Tryz.func46, Tryz.ntmps46
   go_wp2_with (go_at_call 76; refine (HP.out _ _ _).mono ?_; rintro e w4 ⟨rfl, rfl⟩)
   go_ret
   exact ⟨ret_bool (by rw [HR.out]), HF0.out⟩
 | true =>
   have HP := Lib.hid (fun A c w => hp ▸ classPlace_any x A D.cls.length c w)
   obtain ⟨k, rfl, hk⟩ := plB_ex hp
   obtain ⟨bk, ok, rfl, n0, A6, k6, c0, w1, c1, w2, c2, w3, c3, w4, c4, w5, c5, u6, v6, c6, r6⟩ := h3.at hk
   rw [Nat.mul_comm 7 k] at c0 c1 c2 c3 c4 c5 c6
   have hki : (k : Int) < (D.cls.length : Int) := by omega
   have HR := Lib.hid (clsAtB_at hk)
   have hbk := lt_of_cell c0
   generalize D.cls[k] = c at *
   obtain ⟨kd, fi, bi, sh, pl, ex⟩ := c
   simp only at c0 c1 c2 c3 c4 c5 c6 w5 HR
   have HREG := Lib.hid (fun w1 (q : Fr w w1) => registersRight_any (HD.out.fr q) n0 kd fi bi sh pl A6 ex.length k6 ex w5)
   have HNUM := Lib.hid (fun most h0 h1 w1 => numbersRight_any n0 kd fi bi sh pl A6 ex.length k6 ex most h0 h1 w1)
   have z1 : bk < w.heap.size + 1 := by omega
   clear hp h1 h2 h3 h4 h5 h6 h7 h8 h9 r6 w1 w2 w3 w4 u6 v6
   go_enter Tryz.func46, Tryz.ntmps46
   go_wp2_with (first
     | (go_at_call 76; refine (HP.out _ _ _).mono ?_; rintro e w4 ⟨rfl, rfl⟩)
     | (go_at_call 77; refine (HREG.out _ (Fr.alloc HF0.out _)).mono ?_; rintro e w4 ⟨rfl, hf4⟩; have HF4 := Lib.hid (Fr.call (Fr.alloc HF0.out _) hf4); clear hf4)
     | (go_at_call 78; refine (HNUM.out _ (by decide) (by decide) _).mono ?_; rintro e w4 ⟨rfl, hf4⟩; have HF4 := Lib.hid (Fr.call (Fr.alloc HF0.out _) hf4); clear hf4))
   all_goals (have hr := HR.out; clear HR HREG HNUM HP HD HB c0 c1 c2 c3 c4 c5 c6)
   all_goals first
     | (go_ret; exact ⟨ret_bool (by rw [hr]; simp_all [clsB]), HF4.out⟩)
     | (go_ret; exact ⟨ret_bool (by rw [hr]; simp_all [clsB]), Fr.alloc HF0.out _⟩)
def RelO (w : World) (D : Ds) (dv : List Value) (args : List Int) (i : Value) (wr : World) : Prop := ∃ j : Nat, j ≤ args.length ∧ i = .int .i64 (j : Int) ∧ Fr w wr ∧ BlkAt wr w.heap.size dv ∧ (args.take j).all (clsAtB D) = true
set_option maxHeartbeats 12800000 in
set_option maxRecDepth 100000 in
theorem operandsRight_any {w : World} {D : Ds} {v : Array Value} (hD : DescAt w D v) (fn fs : ByteArray) (Aa Bp Cs : Option Addr) (args : List Int) (ac bl bc2 cl cc2 : Nat) (hA : RowOf ArgS 2 w Aa args) :
   Calls Tryz.prog 67 #[.agg v, .agg #[.string fn, .string fs, .slice Aa args.length ac, .slice Bp bl bc2, .slice Cs cl cc2]] w fun e w' => e = .returned (.bool (decide (args.length ≤ 6) && args.all (clsAtB D))) ∧ Fr w w' := by
 have HD := Lib.hid hD
 obtain ⟨s0, Fa, Ba, Ga, Ca, Ma, Ra, Ua, Xa, Ka, Na, Pa, fc, bc, gc, cc, mc, rc, uc, xc, kc, nl, nc, pc, rfl, h1, h2, h3, h4, h5, h6, h7, h8, h9⟩ := hD
 have HA := Lib.hid hA
 have HF0 := Lib.hid (show Fr w ((w.alloc (.cells #[.string s0, .int .i64 D.order, .slice Fa D.files.length fc, .slice Ba D.als.length bc, .slice Ga D.nflags gc, .slice Ca D.cls.length cc, .slice Ma D.fms.length mc, .slice Ra D.rels.length rc, .slice Ua D.uses.length uc, .slice Xa D.rxs.length xc, .slice Ka D.mcs.length kc, .slice Na nl nc, .slice Pa D.regs.length pc] 33)).alloc (.cells #[.string fn, .string fs, .slice Aa args.length ac, .slice Bp bl bc2, .slice Cs cl cc2] 43)) from Fr.alloc (Fr.alloc (Fr.refl w) _) _)
 have HB0 := Lib.hid (show BlkAt ((w.alloc (.cells #[.string s0, .int .i64 D.order, .slice Fa D.files.length fc, .slice Ba D.als.length bc, .slice Ga D.nflags gc, .slice Ca D.cls.length cc, .slice Ma D.fms.length mc, .slice Ra D.rels.length rc, .slice Ua D.uses.length uc, .slice Xa D.rxs.length xc, .slice Ka D.mcs.length kc, .slice Na nl nc, .slice Pa D.regs.length pc] 33)).alloc (.cells #[.string fn, .string fs, .slice Aa args.length ac, .slice Bp bl bc2, .slice Cs cl cc2] 43)) w.heap.size [.string s0, .int .i64 D.order, .slice Fa D.files.length fc, .slice Ba D.als.length bc, .slice Ga D.nflags gc, .slice Ca D.cls.length cc, .slice Ma D.fms.length mc, .slice Ra D.rels.length rc, .slice Ua D.uses.length uc, .slice Xa D.rxs.length xc, .slice Ka D.mcs.length kc, .slice Na nl nc, .slice Pa D.regs.length pc] from BlkAt.fr (by have := BlkAt.alloc (w := w) (t := 33) (cs := #[.string s0, .int .i64 D.order, .slice Fa D.files.length fc, .slice Ba D.als.length bc, .slice Ga D.nflags gc, .slice Ca D.cls.length cc, .slice Ma D.fms.length mc, .slice Ra D.rels.length rc, .slice Ua D.uses.length uc, .slice Xa D.rxs.length xc, .slice Ka D.mcs.length kc, .slice Na nl nc, .slice Pa D.regs.length pc]); simpa using this) (Fr.alloc (Fr.refl _) _))
 clear h1 h2 h3 h4 h5 h6 h7 h8 h9 hA
 by_cases hl : args.length ≤ 6
 · have hl1 : decide (6 < (args.length : Int)) = false := by simp; omega
   have HR := Lib.hid (show (decide (args.length ≤ 6) && args.all (clsAtB D)) = args.all (clsAtB D) by simp [hl])
   go_enter Tryz.func67, Tryz.ntmps67
   go_wp2
   go_loopw [14] (fun i wr => RelO w D [.string s0, .int .i64 D.order, .slice Fa D.files.length fc, .slice Ba D.als.length bc, .slice Ga D.nflags gc, .slice Ca D.cls.length cc, .slice Ma D.fms.length mc, .slice Ra D.rels.length rc, .slice Ua D.uses.length uc, .slice Xa D.rxs.length xc, .slice Ka D.mcs.length kc, .slice Na nl nc, .slice Pa D.regs.length pc] args i wr) (fun i _ => args.length - (intOf i).toNat)
   case atStart => exact ⟨0, by omega, rfl, HF0.out, HB0.out, by simp⟩
   case round =>
     obtain ⟨j, hj, rfl, hf, hB, hal⟩ := hrel
     have HF := Lib.hid hf
     have HB := Lib.hid hB
     have a0 := hB 0 _ rfl; have a1 := hB 1 _ rfl; have a2 := hB 2 _ rfl; have a3 := hB 3 _ rfl; have a4 := hB 4 _ rfl; have a5 := hB 5 _ rfl; have a6 := hB 6 _ rfl; have a7 := hB 7 _ rfl; have a8 := hB 8 _ rfl; have a9 := hB 9 _ rfl; have a10 := hB 10 _ rfl; have a11 := hB 11 _ rfl; have a12 := hB 12 _ rfl
     by_cases hlt : j < args.length
     · obtain ⟨b', o', rfl, n', g0, gw, g1⟩ := (HA.out.fr fun _ _ _ x => x.fr hf).at hlt
       rw [Nat.mul_comm 2 j] at g0 g1
       have HX := Lib.hid (fun h : clsAtB D args[j] = false => all_no hlt h)
       have HY := Lib.hid (fun h : clsAtB D args[j] = true => all_next hlt hal h)
       have HC := Lib.hid (fun w1 (k : Fr w w1) => classRight_any (HD.out.fr k) args[j])
       generalize clsAtB D args[j] = q at *
       generalize args[j] = x at *
       have hji : (j : Int) < (args.length : Int) := by omega
       have zb := lt_of_cell g0
       have zw := lt_of_cell a0
       clear hf hB hal hj gw
       go_wp2_with (go_at_call 46; refine (HC.out _ (Fr.alloc HF.out _)).mono ?_; rintro e w4 ⟨rfl, hf4⟩; have HF4 := Lib.hid (Fr.call (Fr.alloc HF.out _) hf4); have HB4 := Lib.hid (HB.out.fr (Fr.call (Fr.alloc (Fr.refl wr) _) hf4)); clear hf4)
       · go_ret
         rename_i hq
         exact ⟨ret_bool (by rw [HR.out, HX.out (by simpa using hq)]), HF4.out⟩
       · rename_i hq
         go_roundw
         case rel => exact ⟨j + 1, by omega, by go_num, HF4.out, HB4.out, HY.out (by simpa using hq)⟩
         case measure => simp [intOf]; omega
     · obtain rfl : j = args.length := by omega
       have H1 := Lib.hid (all_end hal)
       clear hf hB hal hj
       go_wp2
       go_ret
       exact ⟨ret_bool (by rw [HR.out, H1.out]), HF.out⟩
 · have hl1 : decide (6 < (args.length : Int)) = true := by simp; omega
   have HR := Lib.hid (show (decide (args.length ≤ 6) && args.all (clsAtB D)) = false by simp [hl])
   go_enter Tryz.func67, Tryz.ntmps67
   go_wp2
   go_ret
   exact ⟨ret_bool (by rw [HR.out]), Fr.alloc (Fr.alloc (Fr.refl w) _) _⟩
set_option maxHeartbeats 6400000 in
set_option maxRecDepth 100000 in
theorem put_arg (lb ob oo k n oc g m c lo b : Nat) (lit : ByteArray) (hi p : Int) (v0 : Value) {w : World} (hk : k < n) (hlb : lo + b < m) (hmx : m ≤ 64)
   (c4 : w.cell? ⟨lb, 4, none⟩ = some (.slice (some ⟨ob, oo, none⟩) n oc)) (c7 : w.cell? ⟨ob, oo + k * 8 + 7, none⟩ = some (.slice (some ⟨g, 0, none⟩) m c)) (cg : w.cell? ⟨g, lo + b, none⟩ = some v0) (fg : w.frozen? ⟨g, lo + b, none⟩ = false) :
   Calls Tryz.prog 73 #[.pointer (some ⟨lb, 0, none⟩), .agg #[.string lit, .int .i64 (k : Int), .int .i64 hi, .int .i64 (lo : Int)], .int .i64 (b : Int), .int .i64 p] w fun e w' =>
     e = .returned (.tuple #[]) ∧ ∃ nq, w' = ((w.alloc (.cells #[.string lit, .int .i64 (k : Int), .int .i64 hi, .int .i64 (lo : Int)] 148)).drewN nq).setCell ⟨g, lo + b, none⟩ (.int .i64 p) := by
 have hne : ((k : Int) != -1) = true := bne_iff_ne.2 (by omega)
 have hwp : IntKind.i64.wrap ((lo : Int) + (b : Int)) = (lo : Int) + (b : Int) := by simp [IntKind.wrap, IntKind.bits, IntKind.signed]; omega
 have htn : ((lo : Int) + (b : Int)).toNat = lo + b := by omega
 have hnn : (0 : Int) ≤ (lo : Int) + (b : Int) := by omega
 have hki : (k : Int) < (n : Int) := by omega
 have hlm : (lo : Int) + (b : Int) < (m : Int) := by omega
 have z1 := lt_of_cell c4
 have z2 := lt_of_cell c7
 have z3 := lt_of_cell cg
 have HB := Lib.hid (BlkAt.alloc (w := w) (t := 148) (cs := #[.string lit, .int .i64 (k : Int), .int .i64 hi, .int .i64 (lo : Int)]))
 have HF := Lib.hid (Fr.alloc (Fr.refl w) (.cells #[.string lit, .int .i64 (k : Int), .int .i64 hi, .int .i64 (lo : Int)] 148))
 have HL := Lib.hid hlb
 clear hlb
 have hlo : lo ≤ 64 := by have := HL.out; omega
 have hb : b ≤ 64 := by have := HL.out; omega
 go_enter Tryz.func73, Tryz.ntmps73
 go_wp2_with fail
 generalize hW : World.alloc w _ = W at *
 have d1 := HB.out 1 _ rfl
 have d3 := HB.out 3 _ rfl
 have y1 := lt_of_cell d1
 have e4 := HF.out.get c4
 have e7 := HF.out.get c7
 have eg := HF.out.get cg
 have efg := HF.out.free cg fg
 clear c4 c7 cg fg
 go_still_tail 15, (by kernel_rfl)
 change wpList _ _ _ _ _ W.drew
 go_wp2
 exact bodyPost_ret (v := .tuple #[]) (by simp [results, Tryz.results73, go_sem]) rfl ⟨rfl, 1, by rw [hW]; rfl⟩
theorem chr_idx {lit : ByteArray} {b i : Nat} (h : i + b + 1 = lit.size) : (lit.size : Int) - 1 - (b : Int) = (i : Int) := by omega
def litPut (lb o : Nat) (x0 x1 : Nat) (p : Nat) (w : World) (cs : Array Value) (w' : World) : Prop := ∃ nq, w' = ((w.alloc (.cells cs 148)).drewN nq).setCell ⟨lb, o + p / 64, none⟩ (.int .u64 (addN (if p < 64 then x0 else x1) p : Int))
set_option maxHeartbeats 6400000 in
set_option maxRecDepth 100000 in
theorem put_zero (lb x0 x1 b i p : Nat) (h0 : x0 < 18446744073709551616) (h1 : x1 < 18446744073709551616) (lit : ByteArray) (hi lo : Int) {w : World} (hib : i + b + 1 = lit.size) (hls : lit.size ≤ maxLen) (hil : i < lit.size) (hc : lit[i].toNat = 48) (hp : p < 128)
   (c0 : w.cell? ⟨lb, 0, none⟩ = some (.int .u64 (x0 : Int))) (c1 : w.cell? ⟨lb, 0 + 1, none⟩ = some (.int .u64 (x1 : Int))) (f0 : w.frozen? ⟨lb, 0, none⟩ = false) (f1 : w.frozen? ⟨lb, 0 + 1, none⟩ = false) :
   Calls Tryz.prog 73 #[.pointer (some ⟨lb, 0, none⟩), .agg #[.string lit, .int .i64 (-1), .int .i64 hi, .int .i64 lo], .int .i64 (b : Int), .int .i64 (p : Int)] w fun e w' =>
     e = .returned (.tuple #[]) ∧ litPut lb 0 x0 x1 p w #[.string lit, .int .i64 (-1), .int .i64 hi, .int .i64 lo] w' := by
 have hls : lit.size ≤ 9223372036854775807 := Nat.le_trans hls (by decide)
 have hix := chr_idx hib
 have hil2 : (i : Int) < (lit.size : Int) := by omega
 have HF := Lib.hid (Fr.alloc (Fr.refl w) (.cells #[.string lit, .int .i64 (-1), .int .i64 hi, .int .i64 lo] 148))
 have HAD := Lib.hid (add_any lb 0 x0 x1 h0 h1 p hp (w.alloc (.cells #[.string lit, .int .i64 (-1), .int .i64 hi, .int .i64 lo] 148)) (HF.out.get c0) (HF.out.get c1) (HF.out.free c0 f0) (HF.out.free c1 f1))
 have hci : (lit[i].toNat : Int) = 48 := by omega
 clear c0 c1 f0 f1 hib hc h0 h1
 go_enter Tryz.func73, Tryz.ntmps73
 go_wp2_with fail
 refine HAD.out.mono ?_
 rintro e w4 ⟨rfl, nq, hw⟩
 have HW := Lib.hid hw
 clear hw
 go_wp2
 go_end0
 exact ⟨rfl, nq, HW.out⟩
set_option maxHeartbeats 6400000 in
set_option maxRecDepth 100000 in
theorem put_one (lb x0 x1 b i p : Nat) (h0 : x0 < 18446744073709551616) (h1 : x1 < 18446744073709551616) (lit : ByteArray) (hi lo : Int) {w : World} (hib : i + b + 1 = lit.size) (hls : lit.size ≤ maxLen) (hil : i < lit.size) (hc : lit[i].toNat = 49) (hp : p < 128)
   (c0 : w.cell? ⟨lb, 2, none⟩ = some (.int .u64 (x0 : Int))) (c1 : w.cell? ⟨lb, 2 + 1, none⟩ = some (.int .u64 (x1 : Int))) (f0 : w.frozen? ⟨lb, 2, none⟩ = false) (f1 : w.frozen? ⟨lb, 2 + 1, none⟩ = false) :
   Calls Tryz.prog 73 #[.pointer (some ⟨lb, 0, none⟩), .agg #[.string lit, .int .i64 (-1), .int .i64 hi, .int .i64 lo], .int .i64 (b : Int), .int .i64 (p : Int)] w fun e w' =>
     e = .returned (.tuple #[]) ∧ litPut lb 2 x0 x1 p w #[.string lit, .int .i64 (-1), .int .i64 hi, .int .i64 lo] w' := by
 have hls : lit.size ≤ 9223372036854775807 := Nat.le_trans hls (by decide)
 have hix := chr_idx hib
 have hil2 : (i : Int) < (lit.size : Int) := by omega
 have HF := Lib.hid (Fr.alloc (Fr.refl w) (.cells #[.string lit, .int .i64 (-1), .int .i64 hi, .int .i64 lo] 148))
 have HAD := Lib.hid (add_any lb 2 x0 x1 h0 h1 p hp (w.alloc (.cells #[.string lit, .int .i64 (-1), .int .i64 hi, .int .i64 lo] 148)) (HF.out.get c0) (HF.out.get c1) (HF.out.free c0 f0) (HF.out.free c1 f1))
 have hci : (lit[i].toNat : Int) = 49 := by omega
 clear c0 c1 f0 f1 hib hc h0 h1
 go_enter Tryz.func73, Tryz.ntmps73
 go_wp2_with fail
 refine HAD.out.mono ?_
 rintro e w4 ⟨rfl, nq, hw⟩
 have HW := Lib.hid hw
 clear hw
 go_wp2
 go_end0
 exact ⟨rfl, nq, HW.out⟩
set_option maxHeartbeats 6400000 in
set_option maxRecDepth 100000 in
theorem put_x (lb b i : Nat) (p : Int) (lit : ByteArray) (hi lo : Int) {w : World} (hib : i + b + 1 = lit.size) (hls : lit.size ≤ maxLen) (hil : i < lit.size) (hc : lit[i].toNat = 120) :
   Calls Tryz.prog 73 #[.pointer (some ⟨lb, 0, none⟩), .agg #[.string lit, .int .i64 (-1), .int .i64 hi, .int .i64 lo], .int .i64 (b : Int), .int .i64 p] w fun e w' => e = .returned (.tuple #[]) ∧ Fr w w' := by
 have hls : lit.size ≤ 9223372036854775807 := Nat.le_trans hls (by decide)
 have hix := chr_idx hib
 have hil2 : (i : Int) < (lit.size : Int) := by omega
 have hci : (lit[i].toNat : Int) = 120 := by omega
 clear hib hc
 go_enter Tryz.func73, Tryz.ntmps73
 go_wp2
 go_end0
 exact ⟨rfl, Fr.alloc (Fr.refl w) _⟩
end Go.Proofs.YtdipnhghdajplaaGreatDoor
namespace Go.Proofs.YtdipnhghdajplaaGreatDoor
open Go.RowKit
set_option linter.unusedSimpArgs false
set_option linter.unusedVariables false
theorem row1 {w : World} (x : Int) (t : TypeId) (g : Nat) (hg : g = w.heap.size) : RowOf IntC 1 (w.alloc (.cells #[.int .i64 x] t)) (some ⟨g, 0, none⟩) [x] := fun _ => ⟨g, 0, rfl, fun i hi => by
 subst hg
 obtain rfl : i = 0 := by simpa using hi
 unfold IntC; simp⟩
theorem row0 {w : World} {A : Option Addr} : RowOf IntC 1 w A [] := fun h => absurd h (by simp)
section
variable {E : Env} {Fa Ca Aa Ga Ma : Option Addr} {sb : Nat} {n0 n1 n3 n7 n8 n9 n10 n11 n12 : Value} {fc gc cc ml mc ac : Nat}
set_option maxHeartbeats 6400000 in
set_option maxRecDepth 100000 in
theorem eff34 {w : World} (S : BlkAt w sb [n0, n1, .slice Fa E.files.length fc, n3, .slice Ga E.nflags gc, .slice Ca E.classes.length cc, .slice Ma ml mc, n7, n8, n9, n10, n11, n12, .slice Aa E.args.length ac]) (hE : EnvAt E w Fa Ca Aa) (wd a b : Int) (ks : List Tm) (A : Option Addr) (c : Nat) (hT : TmL w A ks) :
   Calls Tryz.prog 79 #[.pointer (some ⟨sb, 0, none⟩), .agg #[.int .i64 34, .int .i64 wd, .int .i64 a, .int .i64 b, .slice A ks.length c]] w fun e w' => e = .returned (.bool (havB E ks [64])) ∧ Fr w w' := by
 have HS := Lib.hid S
 have HE := Lib.hid hE
 have HT := Lib.hid hT
 have HB := Lib.hid (BlkAt.alloc (w := w) (t := 124) (cs := #[.int .i64 34, .int .i64 wd, .int .i64 a, .int .i64 b, .slice A ks.length c]))
 have HF0 := Lib.hid (Fr.alloc (Fr.refl w) (.cells #[.int .i64 34, .int .i64 wd, .int .i64 a, .int .i64 b, .slice A ks.length c] 124))
 have HV := Lib.hid (fun (w1 : World) (k : Fr w w1) (ws : List Int) (W : Option Addr) (c2 : Nat) (hW : RowOf IntC 1 w1 W ws) (hl : ws.length ≤ 2) => have_any (S.fr k) (hE.fr k) ks A c (TmL.fr k hT) ws W c2 hW hl)
 clear S hE hT
 go_enter Tryz.func79, Tryz.ntmps79
 go_wp2_with fail
 refine (HV.out _ (Fr.alloc HF0.out _) _ _ _ (row1 _ _ _ (by simp)) (by simp)).mono ?_
 rintro e w5 ⟨rfl, hf5⟩
 have HF5 := Lib.hid (Fr.call (Fr.alloc HF0.out _) hf5)
 clear hf5
 go_wp2
 go_ret
 exact ⟨rfl, HF5.out⟩
set_option maxHeartbeats 6400000 in
set_option maxRecDepth 100000 in
theorem eff36 {w : World} (S : BlkAt w sb [n0, n1, .slice Fa E.files.length fc, n3, .slice Ga E.nflags gc, .slice Ca E.classes.length cc, .slice Ma ml mc, n7, n8, n9, n10, n11, n12, .slice Aa E.args.length ac]) (hE : EnvAt E w Fa Ca Aa) (wd a b : Int) (ks : List Tm) (A : Option Addr) (c : Nat) (hT : TmL w A ks) :
   Calls Tryz.prog 79 #[.pointer (some ⟨sb, 0, none⟩), .agg #[.int .i64 36, .int .i64 wd, .int .i64 a, .int .i64 b, .slice A ks.length c]] w fun e w' => e = .returned (.bool (havB E ks [])) ∧ Fr w w' := by
 have HS := Lib.hid S
 have HE := Lib.hid hE
 have HT := Lib.hid hT
 have HB := Lib.hid (BlkAt.alloc (w := w) (t := 124) (cs := #[.int .i64 36, .int .i64 wd, .int .i64 a, .int .i64 b, .slice A ks.length c]))
 have HF0 := Lib.hid (Fr.alloc (Fr.refl w) (.cells #[.int .i64 36, .int .i64 wd, .int .i64 a, .int .i64 b, .slice A ks.length c] 124))
 have HV := Lib.hid (fun (w1 : World) (k : Fr w w1) (ws : List Int) (W : Option Addr) (c2 : Nat) (hW : RowOf IntC 1 w1 W ws) (hl : ws.length ≤ 2) => have_any (S.fr k) (hE.fr k) ks A c (TmL.fr k hT) ws W c2 hW hl)
 clear S hE hT
 go_enter Tryz.func79, Tryz.ntmps79
 go_wp2_with fail
 refine (HV.out _ (HF0.out) _ _ _ (row0) (by simp)).mono ?_
 rintro e w5 ⟨rfl, hf5⟩
 have HF5 := Lib.hid (Fr.call (HF0.out) hf5)
 clear hf5
 go_wp2
 go_ret
 exact ⟨rfl, HF5.out⟩
set_option maxHeartbeats 6400000 in
set_option maxRecDepth 100000 in
theorem eff35 {w : World} (S : BlkAt w sb [n0, n1, .slice Fa E.files.length fc, n3, .slice Ga E.nflags gc, .slice Ca E.classes.length cc, .slice Ma ml mc, n7, n8, n9, n10, n11, n12, .slice Aa E.args.length ac]) (hE : EnvAt E w Fa Ca Aa) (wd a b : Int) (ks : List Tm) (A : Option Addr) (c : Nat) (hT : TmL w A ks) :
   Calls Tryz.prog 79 #[.pointer (some ⟨sb, 0, none⟩), .agg #[.int .i64 35, .int .i64 wd, .int .i64 a, .int .i64 b, .slice A ks.length c]] w fun e w' => e = .returned (.bool (decide (1 ≤ a) && decide (a ≤ 15) && havB E ks [])) ∧ Fr w w' := by
 have HS := Lib.hid S
 have HE := Lib.hid hE
 have HT := Lib.hid hT
 have HB := Lib.hid (BlkAt.alloc (w := w) (t := 124) (cs := #[.int .i64 35, .int .i64 wd, .int .i64 a, .int .i64 b, .slice A ks.length c]))
 have HF0 := Lib.hid (Fr.alloc (Fr.refl w) (.cells #[.int .i64 35, .int .i64 wd, .int .i64 a, .int .i64 b, .slice A ks.length c] 124))
 have HV := Lib.hid (fun (w1 : World) (k : Fr w w1) (ws : List Int) (W : Option Addr) (c2 : Nat) (hW : RowOf IntC 1 w1 W ws) (hl : ws.length ≤ 2) => have_any (S.fr k) (hE.fr k) ks A c (TmL.fr k hT) ws W c2 hW hl)
 clear S hE hT
 by_cases h1 : 1 ≤ a
 · have hd1 : decide (1 ≤ a) = true := by simp [h1]
   by_cases h2 : a ≤ 15
   · have hd2 : decide (a ≤ 15) = true := by simp [h2]
     rw [hd1, hd2, Bool.true_and, Bool.true_and]
     clear h1 h2
     go_enter Tryz.func79, Tryz.ntmps79
     go_wp2_with fail
     refine (HV.out _ (HF0.out) _ _ _ (row0) (by simp)).mono ?_
     rintro e w5 ⟨rfl, hf5⟩
     have HF5 := Lib.hid (Fr.call (HF0.out) hf5)
     clear hf5
     go_wp2
     go_ret
     exact ⟨rfl, HF5.out⟩
   · have hd2 : decide (a ≤ 15) = false := by simp; omega
     rw [hd2, Bool.and_false, Bool.false_and]
     clear h1 h2
     go_enter Tryz.func79, Tryz.ntmps79
     go_wp2
     go_ret
     exact ⟨rfl, HF0.out⟩
 · have hd1 : decide (1 ≤ a) = false := by simp; omega
   rw [hd1, Bool.false_and, Bool.false_and]
   clear h1
   go_enter Tryz.func79, Tryz.ntmps79
   go_wp2
   go_ret
   exact ⟨rfl, HF0.out⟩
end
end Go.Proofs.YtdipnhghdajplaaGreatDoor
