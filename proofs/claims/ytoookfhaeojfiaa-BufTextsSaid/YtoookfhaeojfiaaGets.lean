/- The number that Get reads. -/
import Derived.Test.YtoookfhaeojfiaaGet
namespace Go.Proofs.Ytoookfhaeojfiaa
open Go.RowKit

theorem toNat_add (a b : Nat) : ((a : Int) + (b : Int)).toNat = a + b := by omega
def RelG (l : List Int) (a k : Nat) (v i : Value) : Prop := ∃ j : Nat, j ≤ k ∧ i = .int .i64 (j : Int) ∧ v = .int .u64 (leI ((l.drop a).take j))
set_option maxHeartbeats 3200000 in
theorem get_yes (A : Option Addr) (c a k : Nat) (l : List Int) (hb : By l) (hm : l.length ≤ maxLen) (h : Lies l.length a k) (w : World) (hr : Rd u8v w A l) :
    Calls Try.prog 8 #[.slice A l.length c, .int .i64 (a : Int), .int .i64 (k : Int)] w fun e w' => e = .returned (.tuple #[.int .u64 (leI ((l.drop a).take k)), .int .i64 0]) ∧ w = w' := by
  obtain ⟨h1, h2, h3, h4⟩ := h
  have HA := Lib.hid (fun w => size_yes k h1 h2 w)
  have HB := Lib.hid (fun w => within_yes A l.length c a k hm (by omega) (by omega) h3 h4 w)
  obtain ⟨g, o, rfl, hg, hc⟩ := hr (by omega)
  unfold maxLen at hm
  have hl : a + k ≤ l.length := by omega
  have hk : k ≤ 8 := by omega
  have HD := Lib.hid (hb.drop a)
  have HC := Lib.hid hc
  clear hb hc hr h1 h2 h3 h4
  go_enter Try.func8, Try.ntmps8
  go_wp2_with (first | (go_at_call 19; refine (HA.out _).mono ?_; rintro e w1 ⟨rfl, rfl⟩) | (go_at_call 20; refine (HB.out _).mono ?_; rintro e w1 ⟨rfl, rfl⟩))
  go_loop [8, 21] (fun v i => RelG l a k v i) (fun _ i => k - (intOf i).toNat)
  case atStart => exact ⟨0, by omega, rfl, rfl⟩
  case round =>
    obtain ⟨j, hj, rfl, rfl⟩ := hrel
    by_cases hlt : j < k
    · have hx : a + j < l.length := by omega
      have hcell := HC.out (a + j) hx
      obtain ⟨x0, x1⟩ := (HD.out).at_ (i := j) (by simp; omega)
      have es := @take_snoc (l.drop a) j (by simp; omega)
      obtain ⟨y0, y1⟩ := leI_range ((HD.out).take j)
      have el : ((l.drop a).take j).length = j := by simp; omega
      rw [el] at y1
      rw [List.getElem_drop] at x0 x1 es
      have eo := or_byte (show j < 8 by omega) y0 y1 x0 x1
      have en : leI ((l.drop a).take (j + 1)) = leI ((l.drop a).take j) + l[a + j] * p8 j := by rw [es, leI_snoc, el]
      have y2 := p8_le (show j ≤ 8 by omega)
      rw [p8_eight] at y2
      have EN := Lib.hid en
      have EO := Lib.hid eo
      clear es el en eo
      generalize hX : l[a + j] = X at *
      generalize hY : leI ((l.drop a).take j) = Y at *
      clear hX hY
      have yw : Y < 18446744073709551616 := by omega
      clear y1 y2
      have e8 : (8 * (j : Int)).toNat = 8 * j := by omega
      go_wp2
      go_round
      case rel => exact ⟨j + 1, by omega, by go_num, by rw [IntKind.wrap_u64, EO.out, EN.out]⟩
      case measure => simp [intOf]; omega
    · obtain rfl : j = k := by omega
      go_wp2
      go_ret2
      exact ⟨rfl, rfl⟩
def RelN (l : List Int) (a k : Nat) (v i : Value) : Prop := ∃ j : Nat, j ≤ k ∧ i = .int .i64 ((j : Int) - 1) ∧ v = .int .u64 (leI (((l.drop a).take k).drop j))
set_option maxHeartbeats 3200000 in
theorem num_yes (A : Option Addr) (c a k : Nat) (l : List Int) (hb : By l) (hm : l.length ≤ maxLen) (h : Lies l.length a k) (w : World) (hr : Rd u8v w A l) :
    Calls Try.prog 22 #[.slice A l.length c, .int .i64 (a : Int), .int .i64 (k : Int)] w fun e w' => e = .returned (.int .u64 (leI ((l.drop a).take k))) ∧ w = w' := by
  have HA := Lib.hid (fun w => has_yes A l.length c a k hm h w)
  obtain ⟨h1, h2, h3, h4⟩ := h
  obtain ⟨g, o, rfl, hg, hc⟩ := hr (by omega)
  unfold maxLen at hm
  have hl : a + k ≤ l.length := by omega
  have hk : k ≤ 8 := by omega
  have HD := Lib.hid ((hb.drop a).take k)
  have HC := Lib.hid hc
  clear hb hc hr h1 h2 h3 h4
  go_enter Try.func22, Try.ntmps22
  go_wp2_with (first | (go_at_call 21; refine (HA.out _).mono ?_; rintro e w1 ⟨rfl, rfl⟩))
  go_loop [7, 8] (fun v i => RelN l a k v i) (fun _ i => (intOf i + 1).toNat)
  case atStart => exact ⟨k, by omega, rfl, by rw [List.drop_eq_nil_of_le (by simp; omega)]; rfl⟩
  case round =>
    obtain ⟨j, hj, rfl, rfl⟩ := hrel
    by_cases hlt : 0 < j
    · obtain ⟨i, rfl⟩ : ∃ i, j = i + 1 := ⟨j - 1, by omega⟩
      have ei : ((i + 1 : Nat) : Int) - 1 = (i : Int) := by omega
      rw [ei]
      clear ei
      have hx : a + i < l.length := by omega
      have hcell := HC.out (a + i) hx
      have hi : i < ((l.drop a).take k).length := by simp; omega
      have hg : ((l.drop a).take k)[i] = l[a + i] := by simp
      obtain ⟨x0, x1⟩ := (HD.out).at_ hi
      have ed := List.drop_eq_getElem_cons hi
      obtain ⟨y0, y1⟩ := leI_range ((HD.out).drop (i + 1))
      have el : (((l.drop a).take k).drop (i + 1)).length = k - (i + 1) := by simp; omega
      rw [el] at y1
      rw [hg] at x0 x1 ed
      have en : leI (((l.drop a).take k).drop i) = l[a + i] + 256 * leI (((l.drop a).take k).drop (i + 1)) := by rw [ed]; rfl
      have y2 := p8_le (show k - (i + 1) ≤ 7 by omega)
      have e7 : p8 7 = 72057594037927936 := by decide
      rw [e7] at y2
      have EN := Lib.hid en
      clear el en ed e7 hg
      generalize hX : l[a + i] = X at *
      generalize hY : leI (((l.drop a).take k).drop (i + 1)) = Y at *
      clear hX hY
      have yw : Y < 72057594037927936 := by omega
      clear y1 y2
      go_wp2
      go_round
      case rel => exact ⟨i, by omega, rfl, by rw [EN.out, Int.mul_comm, Int.add_comm]⟩
      case measure => simp [intOf]
    · obtain rfl : j = 0 := by omega
      go_wp2
      go_ret
      exact ⟨rfl, rfl⟩
set_option maxHeartbeats 1600000 in
theorem rget_yes (A : Option Addr) (c a k : Nat) (l : List Int) (hb : By l) (hm : l.length ≤ maxLen) (h : Lies l.length a k) (w : World) (hr : Rd u8v w A l) :
    Calls Try.prog 9 #[.slice A l.length c, .int .i64 (a : Int), .int .i64 (k : Int)] w fun e w' => e = .returned (.tuple #[.int .u64 (leI ((l.drop a).take k)), .int .i64 0]) ∧ w = w' := by
  have HA := Lib.hid (has_yes A l.length c a k hm h w)
  have HB := Lib.hid (num_yes A c a k l hb hm h w hr)
  clear h hb hr
  go_enter Try.func9, Try.ntmps9
  go_wp2_with (first | (go_at_call 21; refine HA.out.mono ?_; rintro e w1 ⟨rfl, rfl⟩) | (go_at_call 22; refine HB.out.mono ?_; rintro e w1 ⟨rfl, rfl⟩))
  go_ret2
  exact ⟨rfl, rfl⟩
end Go.Proofs.Ytoookfhaeojfiaa
