/- The width of a term without parts, of the program. -/
import Derived.Test.YtcndmiolaheaeabGreatDoorVf
namespace Go.Proofs.YtcndmiolaheaeabGreatDoor
open Go.RowKit
set_option linter.unusedSimpArgs false
set_option linter.unusedVariables false

section
variable {E : Env} {w : World} {Fa Ca Aa Ga Ma : Option Addr} {sb : Nat} {n0 n1 n3 n7 n8 n9 n10 n11 n12 : Value} {fc gc cc ml mc ac : Nat}
theorem regw_any (S : BlkAt w sb [n0, n1, .slice Fa E.files.length fc, n3, .slice Ga E.nflags gc, .slice Ca E.classes.length cc, .slice Ma ml mc, n7, n8, n9, n10, n11, n12, .slice Aa E.args.length ac])
    (hE : EnvAt E w Fa Ca Aa) (op wd a b : Int) (K : Option Addr) (kl kc : Nat) :
    Calls Tryz.prog 93 #[.pointer (some ⟨sb, 0, none⟩), .agg #[.int .i64 op, .int .i64 wd, .int .i64 a, .int .i64 b, .slice K kl kc]] w fun e w' => e = .returned (.int .i64 (regW E a b)) ∧ Fr w w' := by
  cases hf : fileO E a with
  | none =>
    have h : regW E a b = 0 := by unfold regW; rw [hf]
    rw [h]; exact regw_no S hE op wd a b K kl kc hf
  | some f => exact regw_pre S hE op wd a b K kl kc hf
set_option maxHeartbeats 6400000 in
set_option maxRecDepth 100000 in
theorem leaf20 (S : BlkAt w sb [n0, n1, .slice Fa E.files.length fc, n3, .slice Ga E.nflags gc, .slice Ca E.classes.length cc, .slice Ma ml mc, n7, n8, n9, n10, n11, n12, .slice Aa E.args.length ac])
    (hE : EnvAt E w Fa Ca Aa) (wd a b : Int) (K : Option Addr) (kl kc : Nat) :
    Calls Tryz.prog 57 #[.pointer (some ⟨sb, 0, none⟩), .agg #[.int .i64 20, .int .i64 wd, .int .i64 a, .int .i64 b, .slice K kl kc]] w fun e w' => e = .returned (.int .i64 (leafW E (20 : Int) wd a b)) ∧ Fr w w' := by
  have HS := Lib.hid S
  have HE := Lib.hid hE
  have hsl := lt_of_cell (S 5 _ rfl)
  clear S hE
  go_enter Tryz.func57, Tryz.ntmps57
  go_wp2_with (go_at_call 92; refine (wide_any _ _).mono ?_; rintro e w1 ⟨rfl, rfl⟩)
  all_goals (go_ret; exact ⟨ret_int (by simp [leafW]), Fr.alloc (Fr.refl w) _⟩)
set_option maxHeartbeats 6400000 in
set_option maxRecDepth 100000 in
theorem leaf21 (S : BlkAt w sb [n0, n1, .slice Fa E.files.length fc, n3, .slice Ga E.nflags gc, .slice Ca E.classes.length cc, .slice Ma ml mc, n7, n8, n9, n10, n11, n12, .slice Aa E.args.length ac])
    (hE : EnvAt E w Fa Ca Aa) (wd a b : Int) (K : Option Addr) (kl kc : Nat) :
    Calls Tryz.prog 57 #[.pointer (some ⟨sb, 0, none⟩), .agg #[.int .i64 21, .int .i64 wd, .int .i64 a, .int .i64 b, .slice K kl kc]] w fun e w' => e = .returned (.int .i64 (leafW E (21 : Int) wd a b)) ∧ Fr w w' := by
  have HS := Lib.hid S
  have HE := Lib.hid hE
  have hsl := lt_of_cell (S 5 _ rfl)
  have HR := Lib.hid (fun w1 (k : Fr w w1) => regw_any (S.fr k) (hE.fr k) 21 wd a b K kl kc)
  clear S hE
  go_enter Tryz.func57, Tryz.ntmps57
  go_wp2_with (go_at_call 93; refine (HR.out _ (Fr.alloc (Fr.refl w) _)).mono ?_; rintro e w1 ⟨rfl, hf⟩; have HF := Lib.hid hf; clear hf)
  all_goals (go_ret; exact ⟨ret_int (by simp [leafW]), (Fr.alloc (Fr.refl w) _).call HF.out⟩)
set_option maxHeartbeats 6400000 in
set_option maxRecDepth 100000 in
theorem leaf22n (S : BlkAt w sb [n0, n1, .slice Fa E.files.length fc, n3, .slice Ga E.nflags gc, .slice Ca E.classes.length cc, .slice Ma ml mc, n7, n8, n9, n10, n11, n12, .slice Aa E.args.length ac])
    (hE : EnvAt E w Fa Ca Aa) (wd a b : Int) (K : Option Addr) (kl kc : Nat) (hc : clsO E a = none) :
    Calls Tryz.prog 57 #[.pointer (some ⟨sb, 0, none⟩), .agg #[.int .i64 22, .int .i64 wd, .int .i64 a, .int .i64 b, .slice K kl kc]] w fun e w' => e = .returned (.int .i64 (leafW E (22 : Int) wd a b)) ∧ Fr w w' := by
  have HS := Lib.hid S
  have HE := Lib.hid hE
  have hsl := lt_of_cell (S 5 _ rfl)
  have HC := Lib.hid (fun w1 (k : Fr w w1) => classOf_none ((S.fr k) 5 _ rfl) ((S.fr k) 13 _ rfl) (hE.fr k) a hc)
  have HX := Lib.hid (show leafW E 22 wd a b = 0 by simp [leafW, hc])
  clear S hE hc
  go_enter Tryz.func57, Tryz.ntmps57
  go_wp2_with (go_at_call 94; refine (HC.out _ (Fr.alloc (Fr.refl w) _)).mono ?_; rintro e w1 ⟨rfl, hf⟩; have HF := Lib.hid hf; clear hf; unfold noClass)
  all_goals (go_ret; exact ⟨ret_int (by rw [HX.out]), Fr.alloc ((Fr.alloc (Fr.refl w) _).call HF.out) _⟩)
set_option maxHeartbeats 6400000 in
set_option maxRecDepth 100000 in
theorem leaf22s (S : BlkAt w sb [n0, n1, .slice Fa E.files.length fc, n3, .slice Ga E.nflags gc, .slice Ca E.classes.length cc, .slice Ma ml mc, n7, n8, n9, n10, n11, n12, .slice Aa E.args.length ac])
    (hE : EnvAt E w Fa Ca Aa) (wd a b : Int) (K : Option Addr) (kl kc : Nat) {c : Int × Int} (hc : clsO E a = some c) :
    Calls Tryz.prog 57 #[.pointer (some ⟨sb, 0, none⟩), .agg #[.int .i64 22, .int .i64 wd, .int .i64 a, .int .i64 b, .slice K kl kc]] w fun e w' => e = .returned (.int .i64 (leafW E (22 : Int) wd a b)) ∧ Fr w w' := by
  have HS := Lib.hid S
  have HE := Lib.hid hE
  have hsl := lt_of_cell (S 5 _ rfl)
  have HC := Lib.hid (fun w1 (k : Fr w w1) => classOf_some ((S.fr k) 5 _ rfl) ((S.fr k) 13 _ rfl) (hE.fr k) a hc)
  have HX := Lib.hid (show leafW E 22 wd a b = if c.1 = 1 then 0 else wideI wd by simp [leafW, hc])
  obtain ⟨c1, c2⟩ := c
  clear S hE hc
  go_enter Tryz.func57, Tryz.ntmps57
  go_wp2_with (first
    | (go_at_call 94; refine (HC.out _ (Fr.alloc (Fr.refl w) _)).mono ?_; rintro e w1 ⟨⟨m0, m1, m2, m3, m4, m5, m6, rfl⟩, hf⟩; have HF := Lib.hid hf; have t1 := hf.get (BlkAt.alloc (w := w) (t := 42) (cs := #[.int .i64 22, .int .i64 wd, .int .i64 a, .int .i64 b, .slice K kl kc]) 1 _ rfl); have z1 := lt_of_cell t1; clear hf)
    | (go_at_call 92; refine (wide_any _ _).mono ?_; rintro e w1 ⟨rfl, rfl⟩))
  all_goals (go_ret; exact ⟨ret_int (by rw [HX.out]; simp_all), Fr.alloc ((Fr.alloc (Fr.refl w) _).call HF.out) _⟩)
set_option maxHeartbeats 6400000 in
set_option maxRecDepth 100000 in
theorem leaf23 (S : BlkAt w sb [n0, n1, .slice Fa E.files.length fc, n3, .slice Ga E.nflags gc, .slice Ca E.classes.length cc, .slice Ma ml mc, n7, n8, n9, n10, n11, n12, .slice Aa E.args.length ac])
    (hE : EnvAt E w Fa Ca Aa) (wd a b : Int) (K : Option Addr) (kl kc : Nat) :
    Calls Tryz.prog 57 #[.pointer (some ⟨sb, 0, none⟩), .agg #[.int .i64 23, .int .i64 wd, .int .i64 a, .int .i64 b, .slice K kl kc]] w fun e w' => e = .returned (.int .i64 (leafW E (23 : Int) wd a b)) ∧ Fr w w' := by
  have HS := Lib.hid S
  have HE := Lib.hid hE
  have hsl := lt_of_cell (S 5 _ rfl)
  clear S hE
  go_enter Tryz.func57, Tryz.ntmps57
  go_wp2
  all_goals (go_ret; exact ⟨ret_int (by simp [leafW]), Fr.alloc (Fr.refl w) _⟩)
set_option maxHeartbeats 6400000 in
set_option maxRecDepth 100000 in
theorem leaf24 (S : BlkAt w sb [n0, n1, .slice Fa E.files.length fc, n3, .slice Ga E.nflags gc, .slice Ca E.classes.length cc, .slice Ma ml mc, n7, n8, n9, n10, n11, n12, .slice Aa E.args.length ac])
    (hE : EnvAt E w Fa Ca Aa) (wd a b : Int) (K : Option Addr) (kl kc : Nat) :
    Calls Tryz.prog 57 #[.pointer (some ⟨sb, 0, none⟩), .agg #[.int .i64 24, .int .i64 wd, .int .i64 a, .int .i64 b, .slice K kl kc]] w fun e w' => e = .returned (.int .i64 (leafW E (24 : Int) wd a b)) ∧ Fr w w' := by
  have HS := Lib.hid S
  have HE := Lib.hid hE
  have hsl := lt_of_cell (S 5 _ rfl)
  clear S hE
  go_enter Tryz.func57, Tryz.ntmps57
  go_wp2
  all_goals (go_ret; exact ⟨ret_int (by simp [leafW]), Fr.alloc (Fr.refl w) _⟩)
set_option maxHeartbeats 6400000 in
set_option maxRecDepth 100000 in
theorem leaf25 (S : BlkAt w sb [n0, n1, .slice Fa E.files.length fc, n3, .slice Ga E.nflags gc, .slice Ca E.classes.length cc, .slice Ma ml mc, n7, n8, n9, n10, n11, n12, .slice Aa E.args.length ac])
    (hE : EnvAt E w Fa Ca Aa) (wd a b : Int) (K : Option Addr) (kl kc : Nat) :
    Calls Tryz.prog 57 #[.pointer (some ⟨sb, 0, none⟩), .agg #[.int .i64 25, .int .i64 wd, .int .i64 a, .int .i64 b, .slice K kl kc]] w fun e w' => e = .returned (.int .i64 (leafW E (25 : Int) wd a b)) ∧ Fr w w' := by
  have HS := Lib.hid S
  have HE := Lib.hid hE
  have hsl := lt_of_cell (S 5 _ rfl)
  have s4 := S 4 _ rfl
  have HX := Lib.hid (show leafW E 25 wd a b = if plB a E.nflags then 1 else 0 by simp [leafW])
  clear S hE
  go_enter Tryz.func57, Tryz.ntmps57
  go_wp2
  go_quiet ((go_at_call 95; refine Calls.quiet_of_same (flagPlace_any _ _ _ _ _)))
  go_wp2
  all_goals (go_ret; exact ⟨ret_int (by rw [HX.out]; simp_all), Fr.drewN (Fr.alloc (Fr.refl w) _) _⟩)
theorem leaf_any (S : BlkAt w sb [n0, n1, .slice Fa E.files.length fc, n3, .slice Ga E.nflags gc, .slice Ca E.classes.length cc, .slice Ma ml mc, n7, n8, n9, n10, n11, n12, .slice Aa E.args.length ac])
    (hE : EnvAt E w Fa Ca Aa) (op wd a b : Int) (K : Option Addr) (kl kc : Nat) (hop : 20 ≤ op ∧ op ≤ 25) :
    Calls Tryz.prog 57 #[.pointer (some ⟨sb, 0, none⟩), .agg #[.int .i64 op, .int .i64 wd, .int .i64 a, .int .i64 b, .slice K kl kc]] w fun e w' => e = .returned (.int .i64 (leafW E op wd a b)) ∧ Fr w w' := by
  rcases (show op = 20 ∨ op = 21 ∨ op = 22 ∨ op = 23 ∨ op = 24 ∨ op = 25 by omega) with rfl | rfl | rfl | rfl | rfl | rfl
  · exact leaf20 S hE wd a b K kl kc
  · exact leaf21 S hE wd a b K kl kc
  · cases hc : clsO E a with
    | none => exact leaf22n S hE wd a b K kl kc hc
    | some c => exact leaf22s S hE wd a b K kl kc hc
  · exact leaf23 S hE wd a b K kl kc
  · exact leaf24 S hE wd a b K kl kc
  · exact leaf25 S hE wd a b K kl kc
end
end Go.Proofs.YtcndmiolaheaeabGreatDoor
