/- What buf's Up and the document's Up answer. -/
import Derived.Test.YtoookfhaeojfiaaUpn
import Derived.Test.YtoookfhaeojfiaaProg
namespace Go.Proofs.Ytoookfhaeojfiaa
open Go.RowKit

/-- What Up may round. -/
def UpOk (n t : Int) : Prop := 0 ≤ n ∧ n ≤ 1099511627776 ∧ Pow t

set_option maxHeartbeats 1600000 in
theorem up_yes (n t : Int) (h : UpOk n t) (w : World) :
    Calls Try.prog 16 #[.int .i64 n, .int .i64 t] w fun e w' => e = .returned (.tuple #[.int .i64 (upI n t), .int .i64 0]) ∧ w = w' := by
  obtain ⟨n0, n1, hp⟩ := h
  obtain ⟨t0, t1⟩ := hp.range
  have ha := (pow_bits t0 t1).2 hp
  have hb := up_bits hp n0 n1
  clear hp
  go_enter Try.func16, Try.ntmps16
  go_wp2
  go_ret2
  exact ⟨rfl, rfl⟩
set_option maxHeartbeats 1600000 in
theorem up_no (n t : Int) (n0 : -9223372036854775808 ≤ n) (n1 : n ≤ 9223372036854775807) (t0 : -9223372036854775808 ≤ t) (t1 : t ≤ 9223372036854775807) (h : ¬ UpOk n t) (w : World) :
    Calls Try.prog 16 #[.int .i64 n, .int .i64 t] w fun e w' => e = .returned (.tuple #[.int .i64 0, .int .i64 25]) ∧ w = w' := by
  by_cases h1 : n < 0
  · clear h
    go_enter Try.func16, Try.ntmps16
    go_wp2
    go_ret2
    exact ⟨rfl, rfl⟩
  by_cases h2 : 1099511627776 < n
  · clear h
    go_enter Try.func16, Try.ntmps16
    go_wp2
    go_ret2
    exact ⟨rfl, rfl⟩
  by_cases h3 : t < 1
  · clear h
    go_enter Try.func16, Try.ntmps16
    go_wp2
    go_ret2
    exact ⟨rfl, rfl⟩
  by_cases h4 : 1073741824 < t
  · clear h
    go_enter Try.func16, Try.ntmps16
    go_wp2
    go_ret2
    exact ⟨rfl, rfl⟩
  have h5 : ¬ bits .and .i64 t (t - 1) = 0 := fun e => h ⟨by omega, by omega, (pow_bits (by omega) (by omega)).1 e⟩
  clear h
  go_enter Try.func16, Try.ntmps16
  go_wp2
  go_ret2
  exact ⟨rfl, rfl⟩

/-- t is one of the first k powers. -/
def powB (t : Int) (k : Nat) : Bool := (List.range k).any fun j => t == ((2 ^ j : Nat) : Int)
theorem powB_zero (t : Int) : powB t 0 = false := rfl
theorem powB_succ (t : Int) (k : Nat) : powB t (k + 1) = (powB t k || t == ((2 ^ k : Nat) : Int)) := by
  simp [powB, List.range_succ]
theorem powB_31 (t : Int) : powB t 31 = true ↔ Pow t := by
  simp only [powB, List.any_eq_true, List.mem_range, beq_iff_eq, Pow]
  exact ⟨fun ⟨j, h, e⟩ => ⟨j, by omega, e⟩, fun ⟨j, h, e⟩ => ⟨j, by omega, e⟩⟩
def RelU (t : Int) (b p : Value) : Prop := ∃ k : Nat, k ≤ 31 ∧ b = .bool (powB t k) ∧ p = .int .i64 ((2 ^ k : Nat) : Int)
theorem pow_le31 {k : Nat} (h : k ≤ 31) : 1 ≤ 2 ^ k ∧ 2 ^ k ≤ 2147483648 :=
  ⟨Nat.one_le_two_pow, by have := Nat.pow_le_pow_right (n := 2) (by omega) h; simpa using this⟩
theorem RelU.next {t : Int} {k : Nat} (hk : k ≤ 30) {b : Bool} {q : Int} (hb : b = (powB t k || t == ((2 ^ k : Nat) : Int))) (hq : q = ((2 ^ k : Nat) : Int) * 2) : RelU t (.bool b) (.int .i64 q) :=
  ⟨k + 1, by omega, by rw [hb, powB_succ], by rw [hq, Nat.pow_succ]; simp⟩
/-- What the document's Up answers. -/
noncomputable def upV (n t : Int) : Int := open Classical in if UpOk n t then upI n t else 0
noncomputable def upE (n t : Int) : Int := open Classical in if UpOk n t then 0 else 25
set_option maxHeartbeats 1600000 in
theorem rup_any (n t : Int) (n0 : -9223372036854775808 ≤ n) (n1 : n ≤ 9223372036854775807) (t0 : -9223372036854775808 ≤ t) (t1 : t ≤ 9223372036854775807) (w : World) :
    Calls Try.prog 15 #[.int .i64 n, .int .i64 t] w fun e w' => e = .returned (.tuple #[.int .i64 (upV n t), .int .i64 (upE n t)]) ∧ w = w' := by
  go_enter Try.func15, Try.ntmps15
  go_wp2
  go_loop [6, 7] (fun b p => RelU t b p) (fun _ p => (2147483648 - intOf p).toNat)
  case atStart => exact ⟨0, by omega, rfl, rfl⟩
  case round =>
    obtain ⟨k, hk, rfl, rfl⟩ := hrel
    obtain ⟨p0, p1⟩ := pow_le31 hk
    by_cases hlt : k ≤ 30
    · obtain ⟨_, p2⟩ := pow_le hlt
      have HN : ∀ (b : Bool) (q : Int), b = (powB t k || t == ((2 ^ k : Nat) : Int)) → q = ((2 ^ k : Nat) : Int) * 2 → RelU t (.bool b) (.int .i64 q) := fun _ _ => RelU.next hlt
      generalize hb : powB t k = B at *
      generalize hp : (2 ^ k : Nat) = p at *
      have q0 : (1 : Int) ≤ (p : Int) := by omega
      have q1 : (p : Int) ≤ 1073741824 := by omega
      clear hb hp
      have HH := Lib.hid HN
      clear HN
      by_cases hB : B = true
      all_goals
        go_wp2
        go_round
        case rel => first | exact HH.out _ _ (by rw [hB]; rfl) rfl | exact HH.out _ _ (by simp [hB, Bool.beq_comm, BEq.comm]) rfl
        case measure => simp [intOf]; omega
    · obtain rfl : k = 31 := by omega
      have hB := powB_31 t
      generalize powB t 31 = B at *
      have q0 : (1073741824 : Int) < ((2 ^ 31 : Nat) : Int) := by decide
      generalize (2 ^ 31 : Nat) = p at *
      by_cases hp : Pow t
      · obtain ⟨t2, t3⟩ := hp.range
        obtain rfl : B = true := hB.2 hp
        clear hB
        by_cases h0 : 0 ≤ n ∧ n ≤ 1099511627776
        · obtain ⟨h00, h01⟩ := h0
          obtain ⟨e1, e2⟩ := up_rest (n := n) t2
          have hok : UpOk n t := ⟨h00, h01, hp⟩
          have ev : upV n t = upI n t := by unfold upV; rw [if_pos hok]
          have ee : upE n t = 0 := by unfold upE; rw [if_pos hok]
          have EV := Lib.hid ev
          have EE := Lib.hid ee
          have E1 := Lib.hid e1
          have E2 := Lib.hid e2
          have m0 := Int.emod_nonneg n (show t ≠ 0 by omega)
          have m1 := Int.emod_lt_of_pos n (show 0 < t by omega)
          clear e1 e2 ev ee hok hp
          by_cases hr : n % t = 0
          · go_wp2
            go_ret2
            exact ⟨ret2_eq (by rw [EV.out, E1.out hr]; rfl) (by rw [EE.out]; rfl), rfl⟩
          · go_wp2
            go_ret2
            exact ⟨ret2_eq (by rw [EV.out, E2.out hr]; rfl) (by rw [EE.out]; rfl), rfl⟩
        · have hok : ¬ UpOk n t := fun h => h0 ⟨h.1, h.2.1⟩
          have ev : upV n t = 0 := by unfold upV; rw [if_neg hok]
          have ee : upE n t = 25 := by unfold upE; rw [if_neg hok]
          have EV := Lib.hid ev
          have EE := Lib.hid ee
          clear ev ee hok hp
          by_cases h1 : n < 0
          all_goals
            go_wp2
            go_ret2
            exact ⟨ret2_eq (by rw [EV.out]; rfl) (by rw [EE.out]; rfl), rfl⟩
      · obtain rfl : B = false := by cases B; rfl; exact absurd (hB.1 rfl) hp
        have hok : ¬ UpOk n t := fun h => hp h.2.2
        have ev : upV n t = 0 := by unfold upV; rw [if_neg hok]
        have ee : upE n t = 25 := by unfold upE; rw [if_neg hok]
        have EV := Lib.hid ev
        have EE := Lib.hid ee
        clear ev ee hok hp hB
        go_wp2
        go_ret2
        exact ⟨ret2_eq (by rw [EV.out]; rfl) (by rw [EE.out]; rfl), rfl⟩
theorem up_any (n t : Int) (n0 : -9223372036854775808 ≤ n) (n1 : n ≤ 9223372036854775807) (t0 : -9223372036854775808 ≤ t) (t1 : t ≤ 9223372036854775807) (w : World) :
    Calls Try.prog 16 #[.int .i64 n, .int .i64 t] w fun e w' => e = .returned (.tuple #[.int .i64 (upV n t), .int .i64 (upE n t)]) ∧ w = w' := by
  unfold upV upE
  by_cases h : UpOk n t
  · rw [if_pos h, if_pos h]; exact up_yes n t h w
  · rw [if_neg h, if_neg h]; exact up_no n t n0 n1 t0 t1 h w
end Go.Proofs.Ytoookfhaeojfiaa
