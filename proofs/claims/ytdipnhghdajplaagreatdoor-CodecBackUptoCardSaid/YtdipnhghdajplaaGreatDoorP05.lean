/- Small functions on numbers, of the program and of the reference. -/
import Derived.Test.YtdipnhghdajplaaGreatDoorP00
import Derived.Test.YtdipnhghdajplaaGreatDoorChecked
import Derived.Laws.BitsLemmas
namespace Go.Proofs.YtdipnhghdajplaaGreatDoor
open Go.RowKit
set_option linter.unusedSimpArgs false
set_option linter.unusedVariables false
theorem bool_iff {a b : Bool} (h : a = true ↔ b = true) : Ending.returned (.bool a) = .returned (.bool b) := by rw [Bool.eq_iff_iff.2 h]
theorem wide_any (x : Int) (w : World) : Calls Tryz.prog 167 #[.int .i64 x] w fun e w' => e = .returned (.int .i64 (wideI x)) ∧ w' = w := by
 go_enter Tryz.func167, Tryz.ntmps167
 go_wp2
 all_goals (go_ret; exact ⟨ret_int (by unfold wideI; split <;> omega), rfl⟩)
theorem shared_any (x y : Int) (w : World) : Calls Tryz.prog 168 #[.int .i64 x, .int .i64 y] w fun e w' => e = .returned (.int .i64 (sharedI x y)) ∧ w' = w := by
 go_enter Tryz.func168, Tryz.ntmps168
 go_wp2
 all_goals (go_ret; exact ⟨ret_int (by unfold sharedI; split <;> simp_all), rfl⟩)
theorem stored_any (x : Int) (w : World) : Calls Tryz.prog 113 #[.int .i64 x] w fun e w' => e = .returned (.bool (memB x)) ∧ w' = w := by
 go_enter Tryz.func113, Tryz.ntmps113
 go_wp2
 all_goals (go_ret; exact ⟨bool_iff (by simp [memB]; try omega), rfl⟩)
theorem rplace_any (x : Int) (n : Nat) (w : World) : Calls Tryz.prog 85 #[.int .i64 x, .int .i64 (n : Int)] w fun e w' => e = .returned (.bool (plB x n)) ∧ w' = w := by
 go_enter Tryz.func85, Tryz.ntmps85
 go_wp2
 all_goals (go_ret; exact ⟨bool_iff (by simp [plB]; omega), rfl⟩)
theorem filePlace_any (x : Int) (A : Option Addr) (n c : Nat) (w : World) : Calls Tryz.prog 75 #[.int .i64 x, .slice A n c] w fun e w' => e = .returned (.bool (plB x n)) ∧ w' = w := by
 go_enter Tryz.func75, Tryz.ntmps75
 go_wp2
 all_goals (go_ret; exact ⟨bool_iff (by simp [plB]; omega), rfl⟩)
theorem classPlace_any (x : Int) (A : Option Addr) (n c : Nat) (w : World) : Calls Tryz.prog 76 #[.int .i64 x, .slice A n c] w fun e w' => e = .returned (.bool (plB x n)) ∧ w' = w := by
 go_enter Tryz.func76, Tryz.ntmps76
 go_wp2
 all_goals (go_ret; exact ⟨bool_iff (by simp [plB]; omega), rfl⟩)
theorem argPlace_any (x : Int) (A : Option Addr) (n c : Nat) (w : World) : Calls Tryz.prog 106 #[.int .i64 x, .slice A n c] w fun e w' => e = .returned (.bool (plB x n)) ∧ w' = w := by
 go_enter Tryz.func106, Tryz.ntmps106
 go_wp2
 all_goals (go_ret; exact ⟨bool_iff (by simp [plB]; omega), rfl⟩)
theorem formPlace_any (x : Int) (A : Option Addr) (n c : Nat) (w : World) : Calls Tryz.prog 41 #[.int .i64 x, .slice A n c] w fun e w' => e = .returned (.bool (plB x n)) ∧ w' = w := by
 go_enter Tryz.func41, Tryz.ntmps41
 go_wp2
 all_goals (go_ret; exact ⟨bool_iff (by simp [plB]; omega), rfl⟩)
theorem flagPlace_any (x : Int) (A : Option Addr) (n c : Nat) (w : World) : Calls Tryz.prog 112 #[.int .i64 x, .slice A n c] w fun e w' => e = .returned (.bool (plB x n)) ∧ w' = w := by
 go_enter Tryz.func112, Tryz.ntmps112
 go_wp2
 all_goals (go_ret; exact ⟨bool_iff (by simp [plB]; omega), rfl⟩)
theorem kidsOf_any (x : Int) (w : World) : Calls Tryz.prog 159 #[.int .i64 x] w fun e w' => e = .returned (.int .i64 (kidsI x)) ∧ w' = w := by
 go_enter Tryz.func159, Tryz.ntmps159
 go_wp2
 all_goals (go_ret; exact ⟨ret_int (by unfold kidsI; simp_all; try omega), rfl⟩)
theorem plB_ex {x : Int} {n : Nat} (h : plB x n = true) : ∃ j : Nat, x = j ∧ j < n := by
 simp only [plB, Bool.and_eq_true, decide_eq_true_eq] at h
 exact ⟨x.toNat, by omega, by omega⟩
theorem if_isSome {α : Type} {c : Bool} {x : α} : (if c then some x else none : Option α).isSome = c := by cases c <;> rfl
theorem plB_nat (j n : Nat) : plB (j : Int) n = decide (j < n) := by simp [plB]
theorem fileO_no {E : Env} {x : Int} (h : plB x E.files.length = false) : fileO E x = none := by
 unfold fileO
 by_cases h0 : 0 ≤ x
 · rw [if_pos h0, List.getElem?_eq_none (by simp [plB, h0] at h; omega)]
 · rw [if_neg h0]
theorem fileO_at {E : Env} {j : Nat} (h : j < E.files.length) : fileO E (j : Int) = if fileB E.files[j] then some E.files[j] else none := by
 unfold fileO
 rw [if_pos (by omega)]
 simp [h]
set_option maxHeartbeats 3200000 in
theorem fileRight_any {E : Env} {w : World} {Fa Ca Aa Ga Ma : Option Addr} (hE : EnvAt E w Fa Ca Aa) (a : Int) (n0 n1 n3 n7 n8 n9 n10 n11 n12 : Value) (fc gc cc ml mc : Nat) :
   Calls Tryz.prog 45 #[.agg #[n0, n1, .slice Fa E.files.length fc, n3, .slice Ga E.nflags gc, .slice Ca E.classes.length cc, .slice Ma ml mc, n7, n8, n9, n10, n11, n12], .int .i64 a] w
     fun e w' => e = .returned (.bool (fileO E a).isSome) ∧ Fr w w' := by
 cases hb : plB a E.files.length with
 | false =>
   have HB := Lib.hid hb
   rw [fileO_no hb]
   clear hb hE
   go_enter Tryz.func45, Tryz.ntmps45
   go_wp2_with (go_at_call 75; refine (filePlace_any _ _ _ _ _).mono ?_; rintro e w1 ⟨rfl, rfl⟩; rw [HB.out])
   go_ret
   exact ⟨rfl, (Fr.refl w).alloc _⟩
 | true =>
   have HB := Lib.hid hb
   obtain ⟨j, rfl, hj⟩ := plB_ex hb
   rw [fileO_at hj, if_isSome]
   obtain ⟨b, o, rfl, n, h0, h1, h2, h3⟩ := hE.files.at hj
   rw [Nat.mul_comm 4 j] at h0 h1 h2 h3
   generalize E.files[j] = f at *
   obtain ⟨f1, f2, f3⟩ := f
   have hbl := lt_of_cell h0
   clear hb hE
   go_enter Tryz.func45, Tryz.ntmps45
   go_wp2_with (go_at_call 75; refine (filePlace_any _ _ _ _ _).mono ?_; rintro e w1 ⟨rfl, rfl⟩; rw [HB.out])
   all_goals (go_ret; exact ⟨bool_iff (by simp [fileB]; try omega), Fr.alloc (Fr.alloc (Fr.refl w) _) _⟩)
set_option maxHeartbeats 12800000 in
set_option maxRecDepth 100000 in
theorem joined_any (op wd a b x y z : Int) (K : Option Addr) (kl kc : Nat) (w : World) (hx : 0 ≤ x ∧ x ≤ 128) (hy : 0 ≤ y ∧ y ≤ 128) :
   Calls Tryz.prog 161 #[.agg #[.int .i64 op, .int .i64 wd, .int .i64 a, .int .i64 b, .slice K kl kc], .int .i64 x, .int .i64 y, .int .i64 z] w fun e w' => e = .returned (.int .i64 (joinW op wd a b x y z)) ∧ Fr w w' := by
 have hxy : IntKind.i64.wrap (x + y) = x + y := by rw [IntKind.wrap_i64]; omega
 have HX := Lib.hid hx
 have HY := Lib.hid hy
 clear hx hy
 go_enter Tryz.func161, Tryz.ntmps161
 go_wp2_with (first
   | (go_at_call 167; refine (wide_any _ _).mono ?_; rintro e w1 ⟨rfl, rfl⟩)
   | (go_at_call 168; refine (shared_any _ _ _).mono ?_; rintro e w1 ⟨rfl, rfl⟩)
   | (go_at_call 113; refine (stored_any _ _).mono ?_; rintro e w1 ⟨rfl, rfl⟩))
 all_goals (go_ret; refine ⟨ret_eq ?_, Fr.alloc (Fr.refl w) _⟩)
 all_goals (have h1 := HX.out; have h2 := HY.out; clear HX HY hxy)
 all_goals first
   | (simp_all [joinW, IntKind.wrap_i64]; done)
   | (simp_all [joinW, IntKind.wrap_i64]; omega)
   | (simp_all [joinW, IntKind.wrap_i64]; split <;> omega)
   | (simp_all [joinW, wrap64]; omega)
end Go.Proofs.YtdipnhghdajplaaGreatDoor
