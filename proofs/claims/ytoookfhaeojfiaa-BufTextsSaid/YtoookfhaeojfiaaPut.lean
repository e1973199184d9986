/- What Put and Append answer: new memory. -/
import Derived.Test.YtoookfhaeojfiaaWr
import Derived.OwnWalk
namespace Go.Proofs.Ytoookfhaeojfiaa
open Go.RowKit

theorem Try.info5 : (Try.prog.info? 5).map (fun i => (i.zero, i.size, i.bytes)) = some (some (.int .u8 0), 1, 1) := by kernel_rfl
theorem Try.size5 : (Try.prog.info? 5).map (·.size) = some 1 := by kernel_rfl
set_option maxHeartbeats 1600000 in
theorem put_no (A : Option Addr) (m c : Nat) (p n v : Int) (hm : m ≤ maxLen) (h : ¬ Lies m p n) (w : World) :
    Calls Try.prog 10 #[.slice A m c, .int .i64 p, .int .i64 n, .int .u64 v] w fun e w' => e = .returned (.tuple #[.slice none 0 0, .int .i64 21]) ∧ w = w' := by
  by_cases hn : 1 ≤ n ∧ n ≤ 8
  · have HA := Lib.hid (fun w => size_yes n hn.1 hn.2 w)
    have HB := Lib.hid (fun w => within_no A m c p n hm (by omega) (by omega) (fun k => h ⟨hn.1, hn.2, k.1, k.2⟩) w)
    clear hn h
    go_enter Try.func10, Try.ntmps10
    go_wp2_with (first | (go_at_call 19; refine (HA.out _).mono ?_; rintro e w1 ⟨rfl, rfl⟩) | (go_at_call 20; refine (HB.out _).mono ?_; rintro e w1 ⟨rfl, rfl⟩))
    go_ret2
    exact ⟨rfl, rfl⟩
  · have HA := Lib.hid (fun w => size_no n hn w)
    clear hn h
    go_enter Try.func10, Try.ntmps10
    go_wp2_with (first | (go_at_call 19; refine (HA.out _).mono ?_; rintro e w1 ⟨rfl, rfl⟩))
    go_ret2
    exact ⟨rfl, rfl⟩
set_option maxHeartbeats 1600000 in
theorem app_no (A : Option Addr) (m c : Nat) (n v : Int) (h : ¬ (1 ≤ n ∧ n ≤ 8)) (w : World) :
    Calls Try.prog 13 #[.slice A m c, .int .i64 n, .int .u64 v] w fun e w' => e = .returned (.tuple #[.slice none 0 0, .int .i64 21]) ∧ w = w' := by
  have HA := Lib.hid (fun w => size_no n h w)
  clear h
  go_enter Try.func13, Try.ntmps13
  go_wp2_with (first | (go_at_call 19; refine (HA.out _).mono ?_; rintro e w1 ⟨rfl, rfl⟩))
  go_ret2
  exact ⟨rfl, rfl⟩
theorem own_full {w : World} {base g n : Nat} {e : TypeId} {xs : List Value} (h : w.ownsRow base e 1 (.slice (some ⟨g, 0, none⟩) n n) n xs) : w.heap[g]? = some (.cells xs.toArray e (0, 0)) := by
  rcases h.2 with ⟨e, _⟩ | ⟨g', cap, cur, hv, _, hh, _, _, hs, ht⟩
  · cases e
  · injection hv with h1 _ h3
    injection h1 with h1
    injection h1 with h1
    subst h1 h3
    rw [hh, ← ht, List.take_of_length_le (by simp; omega)]
theorem made_u8 (n : Nat) : (madeCells #[Value.int .u8 0] n).toList = (List.replicate n (0 : Int)).map u8v := by
  exact (toList_madeCells_one _ n).trans (by simp)
theorem splice_map (l m : List Int) (h : l.length ≤ m.length) : splice (m.map u8v) 0 (l.map u8v) = (l ++ m.drop l.length).map u8v := by
  simp [splice]
theorem one_u8 (l : List Int) : ∀ u ∈ l.map u8v, u.oneCell' = true := ints_oneCell .u8 l
/-- A list that a call answers in memory of its own, all room used. -/
def New (w : World) (l : List Int) (v : Value) (w' : World) : Prop := ∃ g, v = .slice (some ⟨g, 0, none⟩) l.length l.length ∧ w.heap.size ≤ g ∧ Blk w' g l ∧ Fr w w'
set_option maxHeartbeats 3200000 in
theorem put_yes (A : Option Addr) (c a k : Nat) (l : List Int) (v : Int) (v0 : 0 ≤ v) (v1 : v < 18446744073709551616) (hm : l.length ≤ 140737488351232) (h : Lies l.length a k) (w : World) (hr : Rd u8v w A l) :
    Calls Try.prog 10 #[.slice A l.length c, .int .i64 (a : Int), .int .i64 (k : Int), .int .u64 v] w fun e w' => ∃ x, e = .returned (.tuple #[x, .int .i64 0]) ∧ New w (putI l a k v) x w' := by
  obtain ⟨h1, h2, h3, h4⟩ := h
  have hmm : l.length ≤ maxLen := by unfold maxLen; omega
  have HA := Lib.hid (fun w => size_yes k h1 h2 w)
  have HB := Lib.hid (fun w => within_yes A l.length c a k hmm (by omega) (by omega) h3 h4 w)
  obtain ⟨ad, rfl, hc⟩ := hr.adds (by omega)
  have hl : a + k ≤ l.length := by omega
  have hk : k ≤ 8 := by omega
  have HC := Lib.hid hc
  have HR := Lib.hid hr
  have hpos : 0 < l.length := by omega
  have hk1 : 1 ≤ k := by omega
  obtain ⟨i0, hi0, hz0, hz1, hz2⟩ := info_parts Try.info5
  clear hc hr h1 h2 h3 h4 hmm
  go_enter Try.func10, Try.ntmps10
  go_wp2_with (first | (go_at_call 19; refine (HA.out _).mono ?_; rintro e w1 ⟨rfl, rfl⟩) | (go_at_call 20; refine (HB.out _).mono ?_; rintro e w1 ⟨rfl, rfl⟩) | (at_make; refine wpList_make_full _ rfl (.tmp 22) (.tmp 22) 22 rfl w.heap.size 5 i0 (.int .u8 0) 1 Try.underlying22 hi0 hz0 hz1 .i64 .i64 _ _ l.length rfl rfl rfl rfl (by rw [hz2]; omega) (by unfold maxLen; omega) (Nat.le_refl _) ?_))
  intro w1 hown1 hg1
  have hb1 : Below w.heap.size w w1 := (Below.refl _ _).grown hg1 (Nat.le_refl _) (fun _ h => by cases h)
  have hrow := own_full hown1
  rw [made_u8] at hrow
  have HR1 := Lib.hid (HR.out.fr hb1)
  have HC1 := Lib.hid (HR1.out.adds (by omega))
  have HW1 := Lib.hid hrow
  have HB1 := Lib.hid hb1
  have hs1 := hb1.size
  have hz : w.heap.size < w1.heap.size := by have := (Blk.lt (l := List.replicate l.length 0) hrow); exact this
  clear hown1 hg1 hb1 hrow
  obtain ⟨X, hX⟩ : ∃ X, X = l.map u8v := ⟨_, rfl⟩
  obtain ⟨Z, hZ⟩ : ∃ Z, Z = (List.replicate l.length (0 : Int)).map u8v := ⟨_, rfl⟩
  have hXl : X.length = l.length := by rw [hX, List.length_map]
  have hZl : Z.length = l.length := by rw [hZ, List.length_map, List.length_replicate]
  have HX := Lib.hid hX
  have HZ := Lib.hid hZ
  have HXL := Lib.hid hXl
  have HZL := Lib.hid hZl
  have HX1 := Lib.hid (show ∀ u ∈ X, u.oneCell' = true by rw [hX]; exact one_u8 l)
  rw [← hX] at HC1
  rw [← hZ] at HW1
  clear hX hZ hXl hZl
  go_wp2_with ((with_reducible refine wpList_copy_splice rfl (.tmp 24) (.tmp 25) 22 22 rfl 5 Try.underlying22 Try.size5 (some ⟨w.heap.size, 0, none⟩) (some ad) l.length l.length l.length c rfl rfl w.heap.size 0 Z 5 HW1.out X ?_ ?_ ?_ HX1.out w.heap.size w HB1.out (Nat.le_refl _) ?_))
  · rw [HXL.out]; exact (Nat.min_self _).symm
  · intro _
    obtain ⟨_, h, k⟩ := HC1.out
    injection h with h
    subst h
    exact k
  · have := HXL.out; have := HZL.out; omega
  intro w2 HG2 hB2
  have hw2 : Blk w2 w.heap.size l := by
    have h := HG2.out
    rw [HX.out, HZ.out, splice_map _ _ (by simp), List.drop_of_length_le (by simp), List.append_nil] at h
    exact h
  have HW2 := Lib.hid hw2
  have HB2 := Lib.hid hB2
  clear hw2 hB2 HG2
  have hne : ¬ l.length = a := by omega
  have ha1 : (a : Int) + (k : Int) ≤ (l.length : Int) := by omega
  have ek : ((a : Int) + (k : Int) - (a : Int)).toNat = k := by omega
  have HWR := Lib.hid (fun c wx => write_any w.heap.size a k c l v v0 v1 hk hl (by unfold maxLen; omega) wx)
  go_wp2_with fail
  refine (HWR.out _ _ HW2.out).mono ?_
  rintro e w3 ⟨rfl, hw3, hb3⟩
  have HW3 := Lib.hid hw3
  have HB3 := Lib.hid (HB2.out.trans hb3)
  have HL := Lib.hid (putI_length l a k v hl)
  clear hw3 hb3
  go_wp2
  go_ret2
  exact ⟨_, rfl, w.heap.size, by rw [HL.out]; rfl, Nat.le_refl _, HW3.out, HB3.out⟩
end Go.Proofs.Ytoookfhaeojfiaa
