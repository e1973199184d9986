/- The document's bitwise. -/
import Derived.Test.YtglgbhlnfafhjaaRst
import Derived.Test.YtglgbhlnfafhjaaRar
import Derived.Deep.RegionLaw
namespace Go.Proofs.Ytglgbhlnfafhjaa
open Go.RowKit

def RelB (w : World) (n : Nat) (v : Int) (out i : Value) (wr : World) : Prop :=
  ∃ j : Nat, j ≤ n ∧ i = .int .i64 (j : Int) ∧ Making w w.heap.size j v out wr
set_option maxHeartbeats 6400000 in
set_option maxRecDepth 10000 in
theorem rbit4_any (A B : Option Addr) (m c d : Nat) (x y z : Int) (hm : m ≤ 1000) (hz : ∀ i, i < m → (bitI x i && bitI y i) = bitI z i) (w : World) (ha : Rd bolv w A (bitsI m x)) (hb : Rd bolv w B (bitsI m y)) :
    Calls Try.prog 27 #[.int .i64 4, .slice A m c, .slice B m d] w fun e w' => Ans w (bitsI m z) e w' := by
  have HA := Lib.hid ha
  have HB := Lib.hid hb
  have HZ := Lib.hid hz
  clear ha hb hz
  go_enter Try.func27, Try.ntmps27
  go_wp2
  go_loopw [7, 12] (fun out i wr => RelB w m z out i wr) (fun _ i _ => m - (intOf i).toNat)
  case atStart => exact ⟨0, by omega, rfl, Making.start _ _ _ rfl rfl⟩
  case round =>
    obtain ⟨j, hj, rfl, hmk⟩ := hrel
    have HM := Lib.hid hmk
    clear hmk
    by_cases hlt : j < m
    · obtain ⟨g, o, rfl, _, hc⟩ := (HA.out.fr HM.out.fr) (by rw [bitsI_length]; omega)
      obtain ⟨g', o', rfl, _, hc'⟩ := (HB.out.fr HM.out.fr) (by rw [bitsI_length]; omega)
      have h1 := hc j (by rw [bitsI_length]; omega)
      have h2 := hc' j (by rw [bitsI_length]; omega)
      rw [bitsI_get] at h1 h2
      change _ = some (Value.bool _) at h1
      change _ = some (Value.bool _) at h2
      have EB := Lib.hid (HZ.out j hlt)
      generalize bitI x j = p at *
      generalize bitI y j = q at *
      clear hc hc'
      cases p
      all_goals
        go_wp2_with (first
          | (at_builtin; refine wpList_append_rd one_bool _ rfl (.tmp 30) (.tmp 41) 41 rfl w.heap.size 4 Try.underlying41 Try.infob rfl _ (bitsI j z) rfl (HM.out.own.alloc _) (some ⟨wr.heap.size, 0, none⟩) 1 1 [_] rfl rfl (rd_one _ _ _) (by rw [bitsI_length]; unfold maxLen; omega) (by rw [bitsI_length]; omega) (by have := HM.out.lb; simp; omega) ?_))
        intro x1 w1 HG
        have HM1 := Lib.hid (HM.out.more (Nat.le_refl _) EB.out HG.out)
        clear HG
        go_wp2
        go_roundw
        case rel => exact ⟨j + 1, by omega, by go_num, HM1.out⟩
        case measure => simp [intOf]; omega
    · obtain rfl : j = m := by omega
      go_wp2
      go_ret
      exact ans_of HM.out.own HM.out.fr
set_option maxHeartbeats 6400000 in
set_option maxRecDepth 10000 in
theorem rbit5_any (A B : Option Addr) (m c d : Nat) (x y z : Int) (hm : m ≤ 1000) (hz : ∀ i, i < m → (bitI x i || bitI y i) = bitI z i) (w : World) (ha : Rd bolv w A (bitsI m x)) (hb : Rd bolv w B (bitsI m y)) :
    Calls Try.prog 27 #[.int .i64 5, .slice A m c, .slice B m d] w fun e w' => Ans w (bitsI m z) e w' := by
  have HA := Lib.hid ha
  have HB := Lib.hid hb
  have HZ := Lib.hid hz
  clear ha hb hz
  go_enter Try.func27, Try.ntmps27
  go_wp2
  go_loopw [7, 12] (fun out i wr => RelB w m z out i wr) (fun _ i _ => m - (intOf i).toNat)
  case atStart => exact ⟨0, by omega, rfl, Making.start _ _ _ rfl rfl⟩
  case round =>
    obtain ⟨j, hj, rfl, hmk⟩ := hrel
    have HM := Lib.hid hmk
    clear hmk
    by_cases hlt : j < m
    · obtain ⟨g, o, rfl, _, hc⟩ := (HA.out.fr HM.out.fr) (by rw [bitsI_length]; omega)
      obtain ⟨g', o', rfl, _, hc'⟩ := (HB.out.fr HM.out.fr) (by rw [bitsI_length]; omega)
      have h1 := hc j (by rw [bitsI_length]; omega)
      have h2 := hc' j (by rw [bitsI_length]; omega)
      rw [bitsI_get] at h1 h2
      change _ = some (Value.bool _) at h1
      change _ = some (Value.bool _) at h2
      have EB := Lib.hid (HZ.out j hlt)
      generalize bitI x j = p at *
      generalize bitI y j = q at *
      clear hc hc'
      cases p
      all_goals
        go_wp2_with (first
          | (at_builtin; refine wpList_append_rd one_bool _ rfl (.tmp 45) (.tmp 56) 41 rfl w.heap.size 4 Try.underlying41 Try.infob rfl _ (bitsI j z) rfl (HM.out.own.alloc _) (some ⟨wr.heap.size, 0, none⟩) 1 1 [_] rfl rfl (rd_one _ _ _) (by rw [bitsI_length]; unfold maxLen; omega) (by rw [bitsI_length]; omega) (by have := HM.out.lb; simp; omega) ?_))
        intro x1 w1 HG
        have HM1 := Lib.hid (HM.out.more (Nat.le_refl _) EB.out HG.out)
        clear HG
        go_wp2
        go_roundw
        case rel => exact ⟨j + 1, by omega, by go_num, HM1.out⟩
        case measure => simp [intOf]; omega
    · obtain rfl : j = m := by omega
      go_wp2
      go_ret
      exact ans_of HM.out.own HM.out.fr
set_option maxHeartbeats 6400000 in
set_option maxRecDepth 10000 in
theorem rbit6_any (A B : Option Addr) (m c d : Nat) (x y z : Int) (hm : m ≤ 1000) (hz : ∀ i, i < m → (bitI x i != bitI y i) = bitI z i) (w : World) (ha : Rd bolv w A (bitsI m x)) (hb : Rd bolv w B (bitsI m y)) :
    Calls Try.prog 27 #[.int .i64 6, .slice A m c, .slice B m d] w fun e w' => Ans w (bitsI m z) e w' := by
  have HA := Lib.hid ha
  have HB := Lib.hid hb
  have HZ := Lib.hid hz
  clear ha hb hz
  go_enter Try.func27, Try.ntmps27
  go_wp2
  go_loopw [7, 12] (fun out i wr => RelB w m z out i wr) (fun _ i _ => m - (intOf i).toNat)
  case atStart => exact ⟨0, by omega, rfl, Making.start _ _ _ rfl rfl⟩
  case round =>
    obtain ⟨j, hj, rfl, hmk⟩ := hrel
    have HM := Lib.hid hmk
    clear hmk
    by_cases hlt : j < m
    · obtain ⟨g, o, rfl, _, hc⟩ := (HA.out.fr HM.out.fr) (by rw [bitsI_length]; omega)
      obtain ⟨g', o', rfl, _, hc'⟩ := (HB.out.fr HM.out.fr) (by rw [bitsI_length]; omega)
      have h1 := hc j (by rw [bitsI_length]; omega)
      have h2 := hc' j (by rw [bitsI_length]; omega)
      rw [bitsI_get] at h1 h2
      change _ = some (Value.bool _) at h1
      change _ = some (Value.bool _) at h2
      have EB := Lib.hid (HZ.out j hlt)
      generalize bitI x j = p at *
      generalize bitI y j = q at *
      clear hc hc'
      have HMD := Lib.hid (HM.out.drewN 1)
      change Hid (Making w w.heap.size j z _ wr.drew) at HMD
      go_wp2
      go_region_law (first
        | (refine step_append_rd one_bool _ rfl (.tmp 16) (.tmp 26) 41 rfl w.heap.size 4 Try.underlying41 Try.infob rfl _ (bitsI j z) rfl (HM.out.own.alloc _).drew (some ⟨wr.heap.size, 0, none⟩) 1 1 [!(p == q)] rfl rfl (rd_one _ _ _).drew (by rw [bitsI_length]; unfold maxLen; omega) (by rw [bitsI_length]; omega) (by have := HM.out.lb; simp; omega) ?_; intro x1 w1 HG))
      all_goals
        have HM1 := Lib.hid (HMD.out.more (Nat.le_refl _) EB.out HG.out)
        clear HG
        try go_wp2
        go_roundw
        case rel => exact ⟨j + 1, by omega, by go_num, HM1.out⟩
        case measure => simp [intOf]; omega
    · obtain rfl : j = m := by omega
      go_wp2
      go_ret
      exact ans_of HM.out.own HM.out.fr
end Go.Proofs.Ytglgbhlnfafhjaa
