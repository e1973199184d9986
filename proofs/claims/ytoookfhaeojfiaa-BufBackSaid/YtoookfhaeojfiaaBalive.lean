/- The examples of the chapter hold: bufAlive answers true. -/
import Derived.Test.YtoookfhaeojfiaaGets
import Derived.Test.YtoookfhaeojfiaaUpw
namespace Go.Proofs.Ytoookfhaeojfiaa
open Go.RowKit

theorem rd_new {α : Type} {f : α → Value} (w : World) (t : TypeId) (l : List α) : Rd f (w.alloc (.cells (l.map f).toArray t)) (some ⟨w.heap.size, 0, none⟩) l := fun _ =>
  ⟨w.heap.size, 0, rfl, by simp, fun i hi => by
    have := cell_of_row (w.alloc (.cells (l.map f).toArray t)) w.heap.size i (l.map f).toArray t (0, 0) (heap_alloc_new w _)
    rw [Nat.zero_add, this]; simp [hi]⟩
theorem get_alive (w : World) : Calls Try.prog 8 #[.slice (some ⟨w.heap.size, 0, none⟩) 3 3, .int .i64 1, .int .i64 2] (w.alloc (.cells #[.int .u8 1, .int .u8 2, .int .u8 3] 5)) fun e w' => e = .returned (.tuple #[.int .u64 770, .int .i64 0]) ∧ (w.alloc (.cells #[.int .u8 1, .int .u8 2, .int .u8 3] 5)) = w' :=
  get_yes (some ⟨w.heap.size, 0, none⟩) 3 1 2 [1, 2, 3] (fun x hx => by simp at hx; omega) (by unfold maxLen; decide) ⟨by decide, by decide, by decide, by decide⟩ _ (rd_new w 5 [1, 2, 3])
theorem up_alive (w : World) : Calls Try.prog 16 #[.int .i64 13, .int .i64 8] w fun e w' => e = .returned (.tuple #[.int .i64 16, .int .i64 0]) ∧ w = w' :=
  up_yes 13 8 ⟨by decide, by decide, 3, by decide, rfl⟩ w
set_option maxHeartbeats 1600000 in
theorem alive (w : World) : Calls Try.prog 7 #[] w fun e w' => e = .returned (.bool true) ∧ Fr w w' := by
  go_enter Try.func7, Try.ntmps7
  go_wp2_with (first | (go_at_call 8; refine (get_alive _).mono ?_; rintro e w1 ⟨rfl, rfl⟩) | (go_at_call 16; refine (up_alive _).mono ?_; rintro e w1 ⟨rfl, rfl⟩))
  go_ret
  exact ⟨rfl, (Fr.refl w).alloc _⟩
set_option maxHeartbeats 1600000 in
theorem ups_walk (n t : Int) (n0 : -9223372036854775808 ≤ n) (n1 : n ≤ 9223372036854775807) (t0 : -9223372036854775808 ≤ t) (t1 : t ≤ 9223372036854775807) (w : World) :
    Calls Try.prog 5 #[.int .i64 n, .int .i64 t] w fun e w' => e = .returned (.bool true) ∧ Fr w w' := by
  have HA := Lib.hid alive
  have HB := Lib.hid (fun wx => up_any n t n0 n1 t0 t1 wx)
  have HC := Lib.hid (fun wx => rup_any n t n0 n1 t0 t1 wx)
  by_cases h : UpOk n t
  · have ev : upV n t = upI n t := by unfold upV; rw [if_pos h]
    have ee : upE n t = 0 := by unfold upE; rw [if_pos h]
    rw [ev, ee] at HB HC
    obtain ⟨h0, h1, hp⟩ := h
    obtain ⟨t2, t3⟩ := hp.range
    obtain ⟨u0, u1, u2⟩ := up_le n t t2
    generalize upI n t = u at *
    clear ev ee hp
    go_enter Try.func5, Try.ntmps5
    go_wp2_with (first | (go_at_call 7; refine (HA.out _).mono ?_; rintro e w1 ⟨rfl, HF⟩) | (go_at_call 15; refine (HC.out _).mono ?_; rintro e w2 ⟨rfl, rfl⟩) | (go_at_call 16; refine (HB.out _).mono ?_; rintro e w2 ⟨rfl, rfl⟩))
    go_ret
    exact ⟨rfl, HF⟩
  · have ev : upV n t = 0 := by unfold upV; rw [if_neg h]
    have ee : upE n t = 25 := by unfold upE; rw [if_neg h]
    rw [ev, ee] at HB HC
    clear ev ee h
    go_enter Try.func5, Try.ntmps5
    go_wp2_with (first | (go_at_call 7; refine (HA.out _).mono ?_; rintro e w1 ⟨rfl, HF⟩) | (go_at_call 15; refine (HC.out _).mono ?_; rintro e w2 ⟨rfl, rfl⟩) | (go_at_call 16; refine (HB.out _).mono ?_; rintro e w2 ⟨rfl, rfl⟩))
    go_ret
    exact ⟨rfl, HF⟩
end Go.Proofs.Ytoookfhaeojfiaa
