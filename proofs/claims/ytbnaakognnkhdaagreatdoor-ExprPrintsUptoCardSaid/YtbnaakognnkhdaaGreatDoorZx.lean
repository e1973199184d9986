/- Which texts the program takes for numbers. -/
import Derived.Test.YtbnaakognnkhdaaGreatDoorZw
import Derived.Sort.Grow
import Derived.Lib.AtoiAllCases
namespace Go.Proofs.YtbnaakognnkhdaaGreatDoor
open Go.RowKit
set_option linter.unusedSimpArgs false
set_option linter.unusedVariables false

theorem atoi_good (s : ByteArray) (v : Int) (hs : s.size ≤ 281474976710656) (h : Lib.atoiAll s.data.toList = .ok v) (w : World) :
    Calls Tryz.prog 93 #[.string s] w fun e w' => e = .returned (.tuple #[.int .i64 v, .nilIface]) ∧ Fr w w' :=
  (Tryz.strconv_Atoi_ok s (by omega) v h w).mono fun e w' ⟨he, hw⟩ => ⟨he, by
    rcases hw with rfl | ⟨t, rfl⟩
    · exact Fr.refl _
    · exact Lib.bytesWorld_below w _ t⟩
set_option maxHeartbeats 1600000 in
set_option maxRecDepth 100000 in
/-- A text without 0x ahead whose number is written so. -/
theorem num_of (w0 : World) (s : ByteArray) (v : Int) (hs : s.size ≤ 140737488351232) (hp : Lib.hasPrefix s.data.toList [48, 120] = false) (ha : Lib.atoiAll s.data.toList = .ok v) (hi : I64 v)
    (hit : ∀ w, Fr w0 w → Calls Tryz.prog 50 #[.int .i64 v] w fun e w' => e = .returned (.string s) ∧ Fr w w') : NumC w0 s v := by
  refine ⟨hi, fun w hz => ?_⟩
  have hcp := fun w => Tryz.strings_CutPrefix s ⟨#[48, 120]⟩ w
  have hpl : (⟨#[48, 120]⟩ : ByteArray).data.toList = [48, 120] := rfl
  rw [hpl, hp] at hcp
  have hat := fun w => atoi_good s v (by omega) ha w
  have HIT := Lib.hid hit
  obtain ⟨rest, hrest⟩ : ∃ r : ByteArray, r = ⟨(Lib.trimPrefix s.data.toList [48, 120]).toArray⟩ := ⟨_, rfl⟩
  rw [← hrest] at hcp
  clear hit ha hp hpl hrest
  go_enter Tryz.func85, Tryz.ntmps85
  go_wp2_with (first
    | (go_at_call 91; refine (hcp _).mono ?_; rintro e w1 ⟨rfl, rfl⟩)
    | fail)
  go_wp2_with (first
    | (go_at_call 93; refine (hat _).mono ?_; rintro e w2 ⟨rfl, hf2⟩)
    | (go_at_call 50; refine (HIT.out _ (hz.call hf2)).mono ?_; rintro e w3 ⟨rfl, hf3⟩)
    | fail)
  exact bodyPost_ret (v := .tuple #[.int .i64 v, .bool true]) (by simp [results, Tryz.results85, go_sem]) rfl ⟨rfl, hf2.call hf3⟩
/-- A digit alone. -/
theorem num_digit (w0 : World) (d : Nat) (hd : d < 10) (s : ByteArray) (hs : s = ⟨(Lib.decDigits d).toArray⟩) (hp : Lib.hasPrefix s.data.toList [48, 120] = false) (ha : Lib.atoiAll s.data.toList = .ok (d : Int)) (hz : s.size ≤ 140737488351232) : NumC w0 s (d : Int) :=
  num_of w0 s d hz hp ha (by unfold I64; omega) fun w _ => (Tryz.strconv_Itoa_small d (by omega) w).mono fun e w' ⟨he, hw⟩ => ⟨by rw [he, ← hs], by rw [hw]; exact Fr.refl _⟩
theorem num_two (w0 : World) : NumC w0 ⟨#[50]⟩ 2 := num_digit w0 2 (by decide) ⟨#[50]⟩ (by rw [Lib.decDigits]; rfl) (by rfl) (by rfl) (by decide)
theorem num_three (w0 : World) : NumC w0 ⟨#[51]⟩ 3 := num_digit w0 3 (by decide) ⟨#[51]⟩ (by rw [Lib.decDigits]; rfl) (by rfl) (by rfl) (by decide)
end Go.Proofs.YtbnaakognnkhdaaGreatDoor
