/- The document's Bit and Normal. -/
import Derived.Test.YtglgbhlnfafhjaaBits
import Derived.Test.YtglgbhlnfafhjaaRow
import Derived.Test.YtglgbhlnfafhjaaProg
namespace Go.Proofs.Ytglgbhlnfafhjaa
open Go.RowKit

theorem lo_bit (v : Int) (i : Nat) (h : i < 64) : bitI (lo v) i = bitI v i := by
  have e : (18446744073709551616 : Int) = 2 ^ 64 := by decide
  unfold lo; rw [e]; exact bitI_mod v h
theorem hi_bit (v : Int) (i : Nat) (h : i < 64) : bitI (hi v) i = bitI v (64 + i) := by
  have e : (18446744073709551616 : Int) = 2 ^ 64 := by decide
  unfold hi; rw [e, bitI_mod _ h, bitI_div]
theorem bit_beq (x : Int) (i : Nat) : (x / 2 ^ i % 2 == 1) = bitI x i := by
  unfold bitI
  by_cases h : x / 2 ^ i % 2 = 1 <;> simp [h]
set_option maxHeartbeats 400000 in
set_option maxRecDepth 10000 in
theorem bit_any (v : Int) (i : Nat) (h : i < 128) (w : World) :
    Calls Try.prog 48 #[.int .u64 (hi v), .int .u64 (lo v), .int .i64 (i : Int)] w fun e w' => e = .returned (.bool (bitI v i)) ∧ w = w' := by
  obtain ⟨h0, h1⟩ := hi_word v
  obtain ⟨l0, l1⟩ := lo_word v
  by_cases hl : i < 64
  · have E := Lib.hid ((bit_beq (lo v) i).trans (lo_bit v i hl))
    have hl' : (i : Int) < 64 := by omega
    generalize hi v = H at *
    generalize lo v = L at *
    have q0 : 0 ≤ L / 2 ^ i := Int.ediv_nonneg l0 (by have := two_pos i; omega)
    have q1 : L / 2 ^ i < 18446744073709551616 := Int.lt_of_le_of_lt (Int.ediv_le_self _ l0) l1
    go_enter Try.func48, Try.ntmps48
    go_wp2
    go_ret
    exact ⟨ret_bool E.out, rfl⟩
  · obtain ⟨j, hj⟩ : ∃ j, i = 64 + j := ⟨i - 64, by omega⟩
    have E := Lib.hid (show (hi v / 2 ^ j % 2 == 1) = bitI v i by rw [hj]; exact (bit_beq (hi v) j).trans (hi_bit v j (by omega)))
    have hl' : 64 ≤ (i : Int) := by omega
    have hl2 : (i : Int) < 128 := by omega
    have ej : ((i : Int) - 64).toNat = j := by omega
    clear hj h hl
    generalize hi v = H at *
    generalize lo v = L at *
    have q0 : 0 ≤ H / 2 ^ j := Int.ediv_nonneg h0 (by have := two_pos j; omega)
    have q1 : H / 2 ^ j < 18446744073709551616 := Int.lt_of_le_of_lt (Int.ediv_le_self _ h0) h1
    go_enter Try.func48, Try.ntmps48
    go_wp2
    go_ret
    exact ⟨ret_bool E.out, rfl⟩
end Go.Proofs.Ytglgbhlnfafhjaa
