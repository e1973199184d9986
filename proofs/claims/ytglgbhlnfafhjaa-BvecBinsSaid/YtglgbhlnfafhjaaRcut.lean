/- The document's Cut. -/
import Derived.Test.YtglgbhlnfafhjaaRof
namespace Go.Proofs.Ytglgbhlnfafhjaa
open Go.RowKit

/-- The lowest m bits of x, filled up above with a bit. -/
def fillI (m : Nat) (x : Int) (b : Bool) : Int := x % 2 ^ m - (if b then 2 ^ m else 0)
theorem fillI_low (m : Nat) (x : Int) (b : Bool) (i : Nat) (h : i < m) : bitI (fillI m x b) i = bitI x i := by
  unfold fillI
  cases b
  · rw [if_neg (by simp), Int.sub_zero]; exact bitI_mod x h
  · rw [if_pos rfl, show x % 2 ^ m - 2 ^ m = x % 2 ^ m + 2 ^ m * (-1) by omega, bitI_shift _ _ h]; exact bitI_mod x h
theorem fillI_high (m : Nat) (x : Int) (b : Bool) (i : Nat) (h : m ≤ i) : bitI (fillI m x b) i = b := by
  have h1 := Int.emod_nonneg x (two_ne m)
  have h2 := Int.emod_lt_of_pos x (two_pos m)
  have h3 := two_le h
  unfold fillI bitI
  cases b
  · rw [if_neg (by simp), Int.sub_zero, Int.ediv_eq_zero_of_lt h1 (by omega)]; rfl
  · have e : (x % 2 ^ m - 2 ^ m) / 2 ^ i = -1 := by
      have e1 : x % 2 ^ m - 2 ^ m = (x % 2 ^ m - 2 ^ m + 2 ^ i) + 2 ^ i * (-1) := by omega
      rw [e1, Int.add_mul_ediv_left _ _ (two_ne i), Int.ediv_eq_zero_of_lt (by omega) (by omega)]; rfl
    rw [if_pos rfl, e]; rfl
theorem fillI_none (x : Int) : fillI 0 x false = 0 := by unfold fillI; simp
def RelC (w : World) (n : Nat) (v : Int) (out i : Value) (wr : World) : Prop :=
  ∃ j : Nat, j ≤ n ∧ i = .int .i64 (j : Int) ∧ Making w w.heap.size j v out wr
set_option maxHeartbeats 3200000 in
set_option maxRecDepth 10000 in
theorem rcut_any (A : Option Addr) (m c n : Nat) (x : Int) (b : Bool) (hm : m ≤ 1000) (hn : n ≤ 1000) (w : World) (hr : Rd bolv w A (bitsI m x)) :
    Calls Try.prog 49 #[.slice A m c, .int .i64 (n : Int), .bool b] w fun e w' => Ans w (bitsI n (fillI m x b)) e w' := by
  have HR := Lib.hid hr
  clear hr
  go_enter Try.func49, Try.ntmps49
  go_wp2
  go_loopw [7, 8] (fun out i wr => RelC w n (fillI m x b) out i wr) (fun _ i _ => n - (intOf i).toNat)
  case atStart => exact ⟨0, by omega, rfl, Making.start _ _ _ rfl rfl⟩
  case round =>
    obtain ⟨j, hj, rfl, hmk⟩ := hrel
    have HM := Lib.hid hmk
    clear hmk
    by_cases hlt : j < n
    · by_cases hjm : j < m
      · obtain ⟨g, o, rfl, _, hc⟩ := (HR.out.fr HM.out.fr) (by rw [bitsI_length]; omega)
        have hcell := hc j (by rw [bitsI_length]; exact hjm)
        rw [bitsI_get] at hcell
        have EB := Lib.hid (fillI_low m x b j hjm)
        generalize bitI x j = q at *
        clear hc
        go_wp2_with (first
          | (at_builtin; refine wpList_append_rd one_bool _ rfl (.tmp 19) (.tmp 24) 41 rfl w.heap.size 4 Try.underlying41 Try.infob rfl _ (bitsI j (fillI m x b)) rfl (HM.out.own.alloc _) (some ⟨wr.heap.size, 0, none⟩) 1 1 [q] rfl rfl (rd_one _ _ _) (by rw [bitsI_length]; unfold maxLen; omega) (by rw [bitsI_length]; omega) (by have := HM.out.lb; simp; omega) ?_))
        intro x1 w1 HG
        have HM1 := Lib.hid (HM.out.more (Nat.le_refl _) EB.out.symm HG.out)
        clear HG
        go_wp2
        go_roundw
        case rel => exact ⟨j + 1, by omega, by go_num, HM1.out⟩
        case measure => simp [intOf]; omega
      · have EB := Lib.hid (fillI_high m x b j (by omega))
        go_wp2_with (first
          | (at_builtin; refine wpList_append_rd one_bool _ rfl (.tmp 26) (.tmp 28) 41 rfl w.heap.size 4 Try.underlying41 Try.infob rfl _ (bitsI j (fillI m x b)) rfl (HM.out.own.alloc _) (some ⟨wr.heap.size, 0, none⟩) 1 1 [b] rfl rfl (rd_one _ _ _) (by rw [bitsI_length]; unfold maxLen; omega) (by rw [bitsI_length]; omega) (by have := HM.out.lb; simp; omega) ?_))
        intro x1 w1 HG
        have HM1 := Lib.hid (HM.out.more (Nat.le_refl _) EB.out.symm HG.out)
        clear HG
        go_wp2
        go_roundw
        case rel => exact ⟨j + 1, by omega, by go_num, HM1.out⟩
        case measure => simp [intOf]; omega
    · obtain rfl : j = n := by omega
      go_wp2
      go_ret
      exact ans_of HM.out.own HM.out.fr
end Go.Proofs.Ytglgbhlnfafhjaa
