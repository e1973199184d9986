/- The document's Int. -/
import Derived.Test.YtfnoocpopfapmaaRmk
import Derived.Deep.QuietTactic
import Derived.BigQuiet
namespace Go.Proofs.Ytfnoocpopfapmaa
open Go.RowKit

theorem two_63 : (2 : Int) ^ 63 = 9223372036854775808 := by decide
theorem two_64 : (2 : Int) ^ 64 = 18446744073709551616 := by decide
/-- The bits from 63 on, below j, are all b. -/
def Flat (v : Int) (j : Nat) (b : Bool) : Prop := v / 2 ^ 63 % 2 ^ (j - 63) = if b then 2 ^ (j - 63) - 1 else 0
theorem flat_start (v : Int) : Flat v 64 (bitI v 63) := by
  unfold Flat bitI
  rw [show 64 - 63 = 1 from rfl, show (2 : Int) ^ 1 = 2 from rfl]
  by_cases h : v / 2 ^ 63 % 2 = 1
  · rw [h]; simp
  · rw [if_neg (by simpa using h)]; omega
theorem flat_step {v : Int} {j : Nat} {b : Bool} (hj : 64 ≤ j) (h : Flat v j b) (hb : bitI v j = b) : Flat v (j + 1) b := by
  unfold Flat at *
  obtain ⟨k, rfl⟩ : ∃ k, j = 63 + k := ⟨j - 63, by omega⟩
  have e1 : 63 + k + 1 - 63 = k + 1 := by omega
  have e2 : 63 + k - 63 = k := by omega
  rw [e2] at h
  rw [e1, mod_succ, h, bitI_div, hb, two_succ]
  cases b <;> simp
  omega
theorem int_in {n : Nat} {v : Int} {b : Bool} (hn : 64 ≤ n) (v0 : 0 ≤ v) (v1 : v < 2 ^ n) (h : Flat v n b) : -9223372036854775808 ≤ sgnI n v ∧ sgnI n v ≤ 9223372036854775807 := by
  unfold Flat at h
  obtain ⟨k, rfl⟩ : ∃ k, n = 63 + (k + 1) := ⟨n - 64, by omega⟩
  have e2 : 63 + (k + 1) - 63 = k + 1 := by omega
  rw [e2] at h
  have hp := two_pos (k + 1)
  have hk := two_pos k
  rw [two_add, two_63] at v1
  rw [two_63] at h
  have hq0 : 0 ≤ v / 9223372036854775808 := Int.ediv_nonneg v0 (by omega)
  have hq1 : v / 9223372036854775808 < 2 ^ (k + 1) := Int.ediv_lt_of_lt_mul (by omega) (by rw [Int.mul_comm]; exact v1)
  rw [Int.emod_eq_of_lt hq0 hq1] at h
  unfold sgnI
  rw [Int.toNat_natCast]
  have e3 : 63 + (k + 1) - 1 = 63 + k := by omega
  rw [e3, two_add, two_add, two_63]
  rw [two_succ] at *
  cases b
  · simp at h
    have : v < 9223372036854775808 * 2 ^ k := by omega
    rw [if_pos this]; omega
  · simp at h
    have : ¬ v < 9223372036854775808 * 2 ^ k := by omega
    rw [if_neg this]; omega
theorem int_same {n : Nat} {v : Int} (hn : 64 < n) (v0 : 0 ≤ v) (v1 : v < 2 ^ n) (h : -9223372036854775808 ≤ sgnI n v ∧ sgnI n v ≤ 9223372036854775807) (j : Nat) (h1 : 63 ≤ j) (h2 : j < n) : bitI v j = bitI v 63 := by
  have key : ∀ i, 63 ≤ i → i < n → bitI v i = decide (¬ v < 2 ^ (n - 1)) := fun i hi1 hi2 => by
    have hle := two_le hi1
    rw [two_63] at hle
    unfold sgnI at h
    rw [Int.toNat_natCast] at h
    have hpn : (2 : Int) ^ n = 2 ^ i * 2 ^ (n - i) := by rw [← two_add]; congr 1; omega
    have hpe : (2 : Int) ^ (n - i) = 2 ^ (n - i - 1) * 2 := pow_pred _ (by omega)
    unfold bitI
    by_cases hv : v < 2 ^ (n - 1)
    · rw [if_pos hv] at h
      rw [Int.ediv_eq_zero_of_lt v0 (by omega)]
      simp [hv]
    · rw [if_neg hv] at h
      have e : v = (v - 2 ^ n + 2 ^ i) + 2 ^ i * (2 ^ (n - i) - 1) := by rw [Int.mul_sub, ← hpn]; omega
      have q : v / 2 ^ i = 2 ^ (n - i - 1) * 2 - 1 := by
        conv => lhs; rw [e]
        rw [Int.add_mul_ediv_left _ _ (two_ne i), Int.ediv_eq_zero_of_lt (by omega) (by omega), hpe]; omega
      rw [decide_eq_true hv, q]
      simp
  rw [key j h1 h2, key 63 (Nat.le_refl _) (by omega)]
theorem sgn_small {n : Nat} {v : Int} (h1 : 1 ≤ n) (hn : n ≤ 64) (v0 : 0 ≤ v) (v1 : v < 2 ^ n) : -9223372036854775808 ≤ sgnI n v ∧ sgnI n v ≤ 9223372036854775807 := by
  have e := pow_pred n h1
  have hle := two_le (show n - 1 ≤ 63 by omega)
  rw [two_63] at hle
  unfold sgnI
  rw [Int.toNat_natCast]
  split <;> omega
theorem lo_sgn (s : Int) (h : -9223372036854775808 ≤ s ∧ s ≤ 9223372036854775807) : wrap64 (lo (s % 18446744073709551616)) = s := by
  unfold wrap64 lo; omega
theorem field2 (a b c : Value) (w : World) : (Instr.field 24 (.agg #[a, b, c]) 2).run Try.prog w = .ok c w := by kernel_rfl
set_option maxHeartbeats 3200000 in
set_option maxRecDepth 10000 in
theorem rint_bad (W v : Int) (v0 : 0 ≤ v) (v1 : v < 340282366920938463463374607431768211456) (h : normB W v = false) (w : World) :
    Calls Try.prog 20 #[bv W v] w fun e w' => e = .returned (.tuple #[.int .i64 0, .bool false]) ∧ Fr w w' := by
  have HN := Lib.hid (fun wx => rnormal_any W v v0 v1 wx)
  rw [h] at HN
  clear h v0 v1
  go_enter Try.func20, Try.ntmps20
  go_wp2_with (first | (go_at_call 14; refine (HN.out _).mono ?_; rintro e w1 ⟨rfl, hf⟩; have HF := Lib.hid hf; clear hf))
  go_ret2
  exact ⟨rfl, ((Fr.refl w).alloc _).call HF.out⟩
def RelIn (w : World) (n : Nat) (v : Int) (b : Bool) (i : Value) (wr : World) : Prop := ∃ j : Nat, 64 ≤ j ∧ (j ≤ n ∨ j = 64) ∧ i = .int .i64 (j : Int) ∧ Flat v j b ∧ Fr w wr
set_option maxHeartbeats 6400000 in
set_option maxRecDepth 10000 in
theorem rint_any (n : Nat) (v : Int) (r : Int) (ok : Bool) (h : Norm n v) (hin : -9223372036854775808 ≤ sgnI n v ∧ sgnI n v ≤ 9223372036854775807 → r = sgnI n v ∧ ok = true) (hout : ¬ (-9223372036854775808 ≤ sgnI n v ∧ sgnI n v ≤ 9223372036854775807) → r = 0 ∧ ok = false) (w : World) :
    Calls Try.prog 20 #[bv n v] w fun e w' => e = .returned (.tuple #[.int .i64 r, .bool ok]) ∧ Fr w w' := by
  obtain ⟨k1, k2, v0, v1⟩ := h
  rw [Int.toNat_natCast] at v1
  have HN := Lib.hid (fun wx => rnormal_any n v v0 (Int.lt_of_lt_of_le v1 (pow_le128 n (by omega))) wx)
  rw [norm_to ⟨k1, k2, v0, by rw [Int.toNat_natCast]; exact v1⟩] at HN
  have HO := Lib.hid (fun wx => of_b n v (by omega) wx)
  have HG := Lib.hid (fun A c wx hr => sign_any A n c v (by omega) (by omega) wx hr)
  have HC := Lib.hid (fun A c wx hr => rcut_b A n c 64 v (bitI v (n - 1)) (by omega) (by omega) wx hr)
  rw [fill_sign n v (by omega) v0 v1] at HC
  have HT := Lib.hid (fun A c wx hr => to_any A 64 c (sgnI n v) (by omega) (by omega) wx hr)
  have HLO := Lib.hid (lo_sgn (sgnI n v))
  have HSM := Lib.hid (fun hn => @sgn_small n v (by omega) hn v0 v1)
  have HIN := Lib.hid (fun hn hf => @int_in n v (bitI v 63) hn v0 v1 hf)
  have HSA := Lib.hid (fun hn hr j => @int_same n v hn v0 v1 hr j)
  have HFS := Lib.hid (flat_start v)
  have HI := Lib.hid hin
  have HU := Lib.hid hout
  have hn1 : 1 ≤ n := by omega
  have hn2 : n ≤ 128 := by omega
  generalize hB : bitI v (n - 1) = sg at *
  obtain ⟨l0, l1⟩ := lo_word (sgnI n v % 2 ^ 64)
  have hfd := field2
  clear hB hin hout v0 v1 k1 k2
  go_enter Try.func20, Try.ntmps20
  go_wp2_with (first
    | (go_at_call 14; refine (HN.out _).mono ?_; rintro e w1 ⟨rfl, hf⟩; have HF1 := Lib.hid hf; obtain ⟨b0, b1, b2⟩ := ((Bk.new w 24 _).fr HF1.out).three; clear hf)
    | (go_at_call 39; refine (HO.out _).mono ?_; rintro e w2 ⟨A2, c2, rfl, ho, hr, hl2, hm2, hf⟩; have HO2 := Lib.hid ho; have HR2 := Lib.hid hr; have HF2 := Lib.hid (HF1.out.call hf); clear ho hr hf))
  generalize hB63 : bitI v 63 = b63 at *
  have HB63 := Lib.hid hB63
  clear hB63
  go_loopw [5] (fun i wr => RelIn w2 n v b63 i wr) (fun i _ => n - (intOf i).toNat)
  case atStart => exact ⟨64, Nat.le_refl _, .inr rfl, rfl, HFS.out, Fr.refl _⟩
  case round =>
    obtain ⟨j, hj, hjn, rfl, hfl, hfr⟩ := hrel
    have HFL := Lib.hid hfl
    have HF := Lib.hid hfr
    clear hfl hfr
    by_cases hlt : j < n
    · obtain ⟨g, o, rfl, _, hc⟩ := (HR2.out.fr HF.out) (by rw [bitsI_length]; omega)
      have p1 := hc j (by rw [bitsI_length]; omega)
      have p2 := hc 63 (by rw [bitsI_length]; omega)
      rw [bitsI_get] at p1 p2
      rw [HB63.out] at p2
      have HSj := Lib.hid (fun hn hr => HSA.out hn hr j (by omega) hlt)
      have HST := Lib.hid (fun hb => @flat_step v j b63 hj HFL.out hb)
      generalize hBj : bitI v j = bj at *
      have HBj := Lib.hid hBj
      clear hBj
      change _ = some (Value.bool _) at p1
      change _ = some (Value.bool _) at p2
      have hn64 : 63 < n := by omega
      clear hc
      by_cases hne : bj = b63
      · subst hne
        have HFN := Lib.hid (HST.out rfl)
        clear HST HSj
        go_wp2
        go_quiet (fail)
        go_wp2
        go_roundw
        case rel => exact ⟨j + 1, by omega, .inl (by omega), by go_num, HFN.out, HF.out.drewN _⟩
        case measure => simp [intOf]; omega
      · have HO0 := Lib.hid (HU.out (fun hr => hne (HSj.out (by omega) hr)))
        obtain ⟨rfl, rfl⟩ := HO0.out
        obtain rfl : b63 = !bj := by cases bj <;> cases b63 <;> simp at *
        clear hne HSj HST
        go_wp2
        go_quiet (fail)
        go_wp2
        go_ret2
        exact ⟨rfl, ((((Fr.refl w).alloc _).call HF2.out).call HF.out).drewN _⟩
    · have hjn' : n ≤ j := by omega
      have HRG := Lib.hid (show -9223372036854775808 ≤ sgnI n v ∧ sgnI n v ≤ 9223372036854775807 from by
        by_cases h64 : n ≤ 64
        · exact HSM.out h64
        · obtain rfl : j = n := by omega
          exact HIN.out hj HFL.out)
      obtain ⟨rfl, rfl⟩ := HI.out HRG.out
      have hlo := HLO.out HRG.out
      generalize hS : sgnI n v = s at *
      go_wp2_with (first
        | (go_at_call 49; refine (HG.out _ _ _ (HR2.out.fr HF.out)).mono ?_; rintro e w3 ⟨rfl, rfl⟩)
        | (go_at_call 60; refine (HC.out _ _ _ (HR2.out.fr HF.out)).mono ?_; rintro e w4 ⟨A4, c4, rfl, ho, hr, hl4, hm4, hf⟩; have HR4 := Lib.hid hr; have HF4 := Lib.hid hf; clear ho hr hf)
        | (go_at_call 40; refine (HT.out _ _ _ HR4.out).mono ?_; rintro e w5 ⟨rfl, hf⟩; have HF5 := Lib.hid hf; clear hf))
      go_ret2
      exact ⟨ret2_eq (by simp [hS]; exact hlo) rfl, (((Fr.refl w).alloc _).call HF2.out).call (HF.out.call (HF4.out.call HF5.out))⟩
end Go.Proofs.Ytfnoocpopfapmaa
