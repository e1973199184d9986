/- What Append answers. -/
import Derived.Test.YtoookfhaeojfiaaPut
namespace Go.Proofs.Ytoookfhaeojfiaa
open Go.RowKit

theorem putI_end (l : List Int) (k : Nat) (v : Int) : putI (l ++ List.replicate k 0) l.length k v = l ++ litI k v := by
  simp [putI]
set_option maxHeartbeats 3200000 in
theorem app_yes (A : Option Addr) (c k : Nat) (l : List Int) (v : Int) (v0 : 0 ≤ v) (v1 : v < 18446744073709551616) (hm : l.length ≤ 140737488351232) (h1 : 1 ≤ k) (h2 : k ≤ 8) (w : World) (hr : Rd u8v w A l) :
    Calls Try.prog 13 #[.slice A l.length c, .int .i64 (k : Int), .int .u64 v] w fun e w' => ∃ x, e = .returned (.tuple #[x, .int .i64 0]) ∧ New w (l ++ litI k v) x w' := by
  have HA := Lib.hid (fun w => size_yes k (by omega) (by omega) w)
  have hk : k ≤ 8 := by omega
  have HR := Lib.hid hr
  have hk1 : 1 ≤ k := by omega
  obtain ⟨i0, hi0, hz0, hz1, hz2⟩ := info_parts Try.info5
  clear hr h1 h2
  go_enter Try.func13, Try.ntmps13
  go_wp2_with (first | (go_at_call 19; refine (HA.out _).mono ?_; rintro e w1 ⟨rfl, rfl⟩) | (at_make; refine wpList_make_full _ rfl (.tmp 15) (.tmp 15) 22 rfl w.heap.size 5 i0 (.int .u8 0) 1 Try.underlying22 hi0 hz0 hz1 .i64 .i64 _ _ (l.length + k) rfl rfl (by omega) (by omega) (by rw [hz2]; omega) (by unfold maxLen; omega) (Nat.le_refl _) ?_))
  intro w1 hown1 hg1
  have hb1 : Below w.heap.size w w1 := (Below.refl _ _).grown hg1 (Nat.le_refl _) (fun _ h => by cases h)
  have hrow := own_full hown1
  rw [made_u8] at hrow
  have HR1 := Lib.hid (HR.out.fr hb1)
  have HC1 := Lib.hid (show 0 < l.length → _ from HR1.out.adds)
  have HW1 := Lib.hid hrow
  have HB1 := Lib.hid hb1
  have hs1 := hb1.size
  have hz : w.heap.size < w1.heap.size := by have := (Blk.lt (l := List.replicate (l.length + k) 0) hrow); exact this
  clear hown1 hg1 hb1 hrow
  obtain ⟨X, hX⟩ : ∃ X, X = l.map u8v := ⟨_, rfl⟩
  obtain ⟨Z, hZ⟩ : ∃ Z, Z = (List.replicate (l.length + k) (0 : Int)).map u8v := ⟨_, rfl⟩
  have hXl : X.length = l.length := by rw [hX, List.length_map]
  have hZl : Z.length = l.length + k := by rw [hZ, List.length_map, List.length_replicate]
  have HX := Lib.hid hX
  have HZ := Lib.hid hZ
  have HXL := Lib.hid hXl
  have HZL := Lib.hid hZl
  have HX1 := Lib.hid (show ∀ u ∈ X, u.oneCell' = true by rw [hX]; exact one_u8 l)
  rw [← hX] at HC1
  rw [← hZ] at HW1
  clear hX hZ hXl hZl
  go_wp2_with ((with_reducible refine wpList_copy_splice rfl (.tmp 17) (.tmp 18) 22 22 rfl 5 Try.underlying22 Try.size5 (some ⟨w.heap.size, 0, none⟩) A (l.length + k) (l.length + k) l.length c rfl rfl w.heap.size 0 Z 5 HW1.out X ?_ ?_ ?_ HX1.out w.heap.size w HB1.out (Nat.le_refl _) ?_))
  · rw [HXL.out]; exact (Nat.min_eq_left (by omega)).symm
  · intro h
    exact HC1.out (by have := HXL.out; omega)
  · have := HXL.out; have := HZL.out; omega
  intro w2 HG2 hB2
  have hw2 : Blk w2 w.heap.size (l ++ List.replicate k 0) := by
    have h := HG2.out
    rw [HX.out, HZ.out, splice_map _ _ (by simp), List.drop_replicate, Nat.add_sub_cancel_left] at h
    exact h
  have HW2 := Lib.hid hw2
  have HB2 := Lib.hid hB2
  clear hw2 hB2 HG2
  have hne : ¬ l.length + k = l.length := by omega
  have ek : l.length + k - l.length = k := by omega
  have HWR := Lib.hid (fun c wx => write_any w.heap.size l.length k c (l ++ List.replicate k 0) v v0 v1 hk (by simp) (by unfold maxLen; simp; omega) wx)
  go_wp2_with fail
  refine (HWR.out _ _ HW2.out).mono ?_
  rintro e w3 ⟨rfl, hw3, hb3⟩
  have HW3 := Lib.hid hw3
  have HB3 := Lib.hid (HB2.out.trans hb3)
  have HL := Lib.hid (putI_end l k v)
  clear hw3 hb3
  go_wp2
  go_ret2
  have HW4 := HW3.out
  rw [HL.out] at HW4
  exact ⟨_, rfl, w.heap.size, by rw [List.length_append, litI_length]; rfl, Nat.le_refl _, HW4, HB3.out⟩
end Go.Proofs.Ytoookfhaeojfiaa
