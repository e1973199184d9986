/- What buf's Get and the document's Get answer. -/
import Derived.Test.YtoookfhaeojfiaaLe
import Derived.Test.YtoookfhaeojfiaaProg
namespace Go.Proofs.Ytoookfhaeojfiaa
open Go.RowKit

abbrev u8v : Int → Value := Value.int .u8
theorem size_yes (n : Int) (h0 : 1 ≤ n) (h1 : n ≤ 8) (w : World) : Calls Try.prog 19 #[.int .i64 n] w fun e w' => e = .returned (.bool true) ∧ w = w' := by
  go_enter Try.func19, Try.ntmps19
  go_wp2
  go_ret
  exact ⟨rfl, rfl⟩
theorem size_no (n : Int) (h : ¬ (1 ≤ n ∧ n ≤ 8)) (w : World) : Calls Try.prog 19 #[.int .i64 n] w fun e w' => e = .returned (.bool false) ∧ w = w' := by
  by_cases h0 : 1 ≤ n
  · have h1 : ¬ n ≤ 8 := fun k => h ⟨h0, k⟩
    clear h
    go_enter Try.func19, Try.ntmps19
    go_wp2
    go_ret
    exact ⟨rfl, rfl⟩
  · clear h
    go_enter Try.func19, Try.ntmps19
    go_wp2
    go_ret
    exact ⟨rfl, rfl⟩
theorem within_yes (A : Option Addr) (m c : Nat) (p n : Int) (hm : m ≤ maxLen) (n0 : 0 ≤ n) (n1 : n ≤ 8) (p0 : 0 ≤ p) (p1 : p + n ≤ m) (w : World) :
    Calls Try.prog 20 #[.slice A m c, .int .i64 p, .int .i64 n] w fun e w' => e = .returned (.bool true) ∧ w = w' := by
  unfold maxLen at hm
  have h : p ≤ (m : Int) - n := by omega
  go_enter Try.func20, Try.ntmps20
  go_wp2
  go_ret
  exact ⟨rfl, rfl⟩
theorem within_no (A : Option Addr) (m c : Nat) (p n : Int) (hm : m ≤ maxLen) (n0 : 0 ≤ n) (n1 : n ≤ 8) (h : ¬ (0 ≤ p ∧ p + n ≤ m)) (w : World) :
    Calls Try.prog 20 #[.slice A m c, .int .i64 p, .int .i64 n] w fun e w' => e = .returned (.bool false) ∧ w = w' := by
  unfold maxLen at hm
  by_cases h0 : 0 ≤ p
  · have h1 : ¬ p ≤ (m : Int) - n := fun k => h ⟨h0, by omega⟩
    clear h
    go_enter Try.func20, Try.ntmps20
    go_wp2
    go_ret
    exact ⟨rfl, rfl⟩
  · clear h
    go_enter Try.func20, Try.ntmps20
    go_wp2
    go_ret
    exact ⟨rfl, rfl⟩
/-- n bytes from p on lie within m. -/
def Lies (m : Nat) (p n : Int) : Prop := 1 ≤ n ∧ n ≤ 8 ∧ 0 ≤ p ∧ p + n ≤ m
theorem has_yes (A : Option Addr) (m c : Nat) (p n : Int) (hm : m ≤ maxLen) (h : Lies m p n) (w : World) :
    Calls Try.prog 21 #[.slice A m c, .int .i64 p, .int .i64 n] w fun e w' => e = .returned (.bool true) ∧ w = w' := by
  unfold maxLen at hm
  obtain ⟨h1, h2, h3, h4⟩ := h
  have h5 : n ≤ (m : Int) - p := by omega
  have h6 : p ≤ (m : Int) := by omega
  go_enter Try.func21, Try.ntmps21
  go_wp2
  go_ret
  exact ⟨rfl, rfl⟩
theorem has_no (A : Option Addr) (m c : Nat) (p n : Int) (hm : m ≤ maxLen) (h : ¬ Lies m p n) (w : World) :
    Calls Try.prog 21 #[.slice A m c, .int .i64 p, .int .i64 n] w fun e w' => e = .returned (.bool false) ∧ w = w' := by
  unfold maxLen at hm
  by_cases h1 : 1 ≤ n
  · by_cases h2 : n ≤ 8
    · by_cases h3 : 0 ≤ p
      · by_cases h6 : p ≤ (m : Int)
        · have h5 : ¬ n ≤ (m : Int) - p := fun k => h ⟨h1, h2, h3, by omega⟩
          clear h
          go_enter Try.func21, Try.ntmps21
          go_wp2
          go_ret
          exact ⟨rfl, rfl⟩
        · clear h
          go_enter Try.func21, Try.ntmps21
          go_wp2
          go_ret
          exact ⟨rfl, rfl⟩
      · clear h
        go_enter Try.func21, Try.ntmps21
        go_wp2
        go_ret
        exact ⟨rfl, rfl⟩
    · clear h
      go_enter Try.func21, Try.ntmps21
      go_wp2
      go_ret
      exact ⟨rfl, rfl⟩
  · clear h
    go_enter Try.func21, Try.ntmps21
    go_wp2
    go_ret
    exact ⟨rfl, rfl⟩
set_option maxHeartbeats 1600000 in
theorem get_no (A : Option Addr) (m c : Nat) (p n : Int) (hm : m ≤ maxLen) (h : ¬ Lies m p n) (w : World) :
    Calls Try.prog 8 #[.slice A m c, .int .i64 p, .int .i64 n] w fun e w' => e = .returned (.tuple #[.int .u64 0, .int .i64 21]) ∧ w = w' := by
  by_cases hn : 1 ≤ n ∧ n ≤ 8
  · have HA := Lib.hid (fun w => size_yes n hn.1 hn.2 w)
    have HB := Lib.hid (fun w => within_no A m c p n hm (by omega) (by omega) (fun k => h ⟨hn.1, hn.2, k.1, k.2⟩) w)
    clear hn h
    go_enter Try.func8, Try.ntmps8
    go_wp2_with (first | (go_at_call 19; refine (HA.out _).mono ?_; rintro e w1 ⟨rfl, rfl⟩) | (go_at_call 20; refine (HB.out _).mono ?_; rintro e w1 ⟨rfl, rfl⟩))
    go_ret2
    exact ⟨rfl, rfl⟩
  · have HA := Lib.hid (fun w => size_no n hn w)
    clear hn h
    go_enter Try.func8, Try.ntmps8
    go_wp2_with (first | (go_at_call 19; refine (HA.out _).mono ?_; rintro e w1 ⟨rfl, rfl⟩))
    go_ret2
    exact ⟨rfl, rfl⟩
set_option maxHeartbeats 1600000 in
theorem rget_no (A : Option Addr) (m c : Nat) (p n : Int) (hm : m ≤ maxLen) (h : ¬ Lies m p n) (w : World) :
    Calls Try.prog 9 #[.slice A m c, .int .i64 p, .int .i64 n] w fun e w' => e = .returned (.tuple #[.int .u64 0, .int .i64 21]) ∧ w = w' := by
  have HA := Lib.hid (fun w => has_no A m c p n hm h w)
  clear h
  go_enter Try.func9, Try.ntmps9
  go_wp2_with (first | (go_at_call 21; refine (HA.out _).mono ?_; rintro e w1 ⟨rfl, rfl⟩))
  go_ret2
  exact ⟨rfl, rfl⟩
end Go.Proofs.Ytoookfhaeojfiaa
