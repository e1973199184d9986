/- The document's not, some, Sign. -/
import Derived.Test.YtglgbhlnfafhjaaRof
namespace Go.Proofs.Ytglgbhlnfafhjaa
open Go.RowKit

def RelK (w : World) (n : Nat) (v : Int) (out i : Value) (wr : World) : Prop :=
  ∃ j : Nat, j ≤ n ∧ i = .int .i64 (j : Int) ∧ Making w w.heap.size j v out wr
set_option maxHeartbeats 3200000 in
set_option maxRecDepth 10000 in
theorem rnot_any (A : Option Addr) (m c : Nat) (x : Int) (hm : m ≤ 1000) (w : World) (hr : Rd bolv w A (bitsI m x)) :
    Calls Try.prog 25 #[.slice A m c] w fun e w' => Ans w (bitsI m (-1 - x)) e w' := by
  have HR := Lib.hid hr
  clear hr
  go_enter Try.func25, Try.ntmps25
  go_wp2
  go_loopw [3, 9] (fun out i wr => RelK w m (-1 - x) out i wr) (fun _ i _ => m - (intOf i).toNat)
  case atStart => exact ⟨0, by omega, rfl, Making.start _ _ _ rfl rfl⟩
  case round =>
    obtain ⟨j, hj, rfl, hmk⟩ := hrel
    have HM := Lib.hid hmk
    clear hmk
    by_cases hlt : j < m
    · obtain ⟨g, o, rfl, _, hc⟩ := (HR.out.fr HM.out.fr) (by rw [bitsI_length]; omega)
      have hcell := hc j (by rw [bitsI_length]; exact hlt)
      rw [bitsI_get] at hcell
      have EB := Lib.hid (bitI_not x j)
      generalize bitI x j = q at *
      clear hc
      go_wp2_with (first
        | (at_builtin; refine wpList_append_rd one_bool _ rfl (.tmp 13) (.tmp 16) 41 rfl w.heap.size 4 Try.underlying41 Try.infob rfl _ (bitsI j (-1 - x)) rfl (HM.out.own.alloc _) (some ⟨wr.heap.size, 0, none⟩) 1 1 [!q] rfl rfl (rd_one _ _ _) (by rw [bitsI_length]; unfold maxLen; omega) (by rw [bitsI_length]; omega) (by have := HM.out.lb; simp; omega) ?_))
      intro x1 w1 HG
      have HM1 := Lib.hid (HM.out.more (Nat.le_refl _) EB.out.symm HG.out)
      clear HG
      go_wp2
      go_roundw
      case rel => exact ⟨j + 1, by omega, by go_num, HM1.out⟩
      case measure => simp [intOf]; omega
    · obtain rfl : j = m := by omega
      go_wp2
      go_ret
      exact ans_of HM.out.own HM.out.fr
theorem sign_any (A : Option Addr) (m c : Nat) (x : Int) (h : 0 < m) (hm : m ≤ 1000) (w : World) (hr : Rd bolv w A (bitsI m x)) :
    Calls Try.prog 31 #[.slice A m c] w fun e w' => e = .returned (.bool (bitI x (m - 1))) ∧ w = w' := by
  obtain ⟨k, rfl⟩ : ∃ k, m = k + 1 := ⟨m - 1, by omega⟩
  obtain ⟨g, o, rfl, _, hc⟩ := hr (by rw [bitsI_length]; omega)
  have hcell := hc k (by rw [bitsI_length]; omega)
  rw [bitsI_get] at hcell
  rw [Nat.add_sub_cancel]
  generalize bitI x k = q at *
  clear hc hr
  have ek : ((k + 1 : Nat) : Int) - 1 = (k : Int) := by omega
  go_enter Try.func31, Try.ntmps31
  go_wp2
  go_ret
  exact ⟨rfl, rfl⟩
end Go.Proofs.Ytglgbhlnfafhjaa
