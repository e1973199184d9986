/- Little: the lowest bytes of a number, in memory of its own. -/
import Derived.Test.YtoookfhaeojfiaaPut
import Derived.Test.YtoookfhaeojfiaaRow
namespace Go.Proofs.Ytoookfhaeojfiaa
open Go.RowKit

theorem one_u8' (x : Int) : (u8v x).oneCell' = true := one_u8 [x] _ (by simp)
theorem rd_one {α : Type} {f : α → Value} (w : World) (t : TypeId) (x : α) : Rd f (w.alloc (.cells #[f x] t)) (some ⟨w.heap.size, 0, none⟩) [x] := fun _ =>
  ⟨w.heap.size, 0, rfl, by simp, fun i hi => by
    obtain rfl : i = 0 := by simp at hi; omega
    have := cell_of_row (w.alloc (.cells #[f x] t)) w.heap.size 0 #[f x] t (0, 0) (heap_alloc_new w _)
    rw [Nat.zero_add, this]; rfl⟩
theorem own_new (w : World) : Own u8v (w.alloc (.cells #[] 5)) w.heap.size 5 (.slice (some ⟨w.heap.size, 0, none⟩) 0 0) ([] : List Int) :=
  World.ownsRow_made w #[] 0 (Nat.le_refl _) (Nat.zero_le _) rfl
def RelL (w : World) (V : Int) (n : Nat) (v out i : Value) (wr : World) : Prop :=
  ∃ j : Nat, j ≤ n ∧ i = .int .i64 (j : Int) ∧ v = .int .u64 (V / p8 j) ∧ Own u8v wr w.heap.size 5 out (litI j V) ∧ Fr w wr
set_option maxHeartbeats 3200000 in
theorem little_any (n : Nat) (V : Int) (v0 : 0 ≤ V) (v1 : V < 18446744073709551616) (hn : n ≤ 8) (w : World) :
    Calls Try.prog 14 #[.int .i64 (n : Int), .int .u64 V] w fun e w' => ∃ x, e = .returned x ∧ Own u8v w' w.heap.size 5 x (litI n V) ∧ Fr w w' := by
  go_enter Try.func14, Try.ntmps14
  go_wp2
  go_loopw [1, 5, 6] (fun v out i wr => RelL w V n v out i wr) (fun _ _ i _ => n - (intOf i).toNat)
  case atStart => 
    refine ⟨0, by omega, rfl, by rw [p8_zero, Int.ediv_one], ?_, ?_⟩
    · exact World.ownsRow_made w #[] 0 (Nat.le_refl _) (Nat.zero_le _) rfl
    · exact (Fr.refl w).alloc _
  case round =>
    obtain ⟨j, hj, rfl, rfl, hown, hfr⟩ := hrel
    by_cases hlt : j < n
    · have HO := Lib.hid hown
      have HF := Lib.hid hfr
      have hp := p8_pos j
      have q0 : 0 ≤ V / p8 j := Int.ediv_nonneg v0 (by omega)
      have q1 : V / p8 j < 18446744073709551616 := Int.lt_of_le_of_lt (Int.ediv_le_self _ v0) v1
      have EQ := Lib.hid (show V / p8 (j + 1) = V / p8 j / 256 by rw [p8_succ, Int.ediv_ediv_of_nonneg (by omega)])
      have ES := Lib.hid (litI_snoc j V)
      generalize hq : V / p8 j = q at *
      have HQ := Lib.hid hq
      clear hown hfr hq hp
      go_wp2_with ((at_builtin; refine wpList_append_rd one_u8' _ rfl _ _ 22 rfl w.heap.size 5 Try.underlying22 Try.info5 rfl _ (litI j V) rfl (HO.out.alloc _) (some ⟨wr.heap.size, 0, none⟩) 1 1 [q % 256] rfl rfl (rd_one _ _ _) ?_ ?_ ?_ ?_))
      · rw [litI_length]; unfold maxLen; omega
      · rw [litI_length]; omega
      · have := HF.out.size; simp; omega
      intro x1 w1 HG
      have HO1 := Lib.hid HG.out.own
      have HF1 := Lib.hid (HG.out.fr (HF.out.alloc _) (Nat.le_refl _) HO.out.base_le)
      clear HG
      go_wp2
      go_roundw
      case rel => exact ⟨j + 1, by omega, by go_num, by rw [EQ.out], by rw [ES.out]; exact HO1.out, HF1.out⟩
      case measure => simp [intOf]; omega
    · obtain rfl : j = n := by omega
      have HO := Lib.hid hown
      have HF := Lib.hid hfr
      clear hown hfr
      go_wp2
      go_ret
      exact ⟨_, rfl, HO.out, HF.out⟩
end Go.Proofs.Ytoookfhaeojfiaa
