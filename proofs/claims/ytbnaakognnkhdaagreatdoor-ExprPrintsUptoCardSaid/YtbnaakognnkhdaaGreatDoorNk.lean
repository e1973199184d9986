/- ExprPrints answers true, given what the program's calls answer. -/
import Derived.Test.YtbnaakognnkhdaaGreatDoorNi
namespace Go.Proofs.YtbnaakognnkhdaaGreatDoor
open Go.RowKit
set_option linter.unusedSimpArgs false
set_option linter.unusedVariables false

/-- A sum's text. -/
def textL (a : Ln) : ByteArray := ⟨(prT a.P a.off).toArray⟩
/-- What Print answers. -/
def printF (a : Ln) : ByteArray × Int := if a.norm = true then (textL a, 0) else (⟨#[]⟩, 121)
def PrintC (L : World → Prop) (S : Ln → Prop) : Prop := ∀ (a : Ln) (F : Nat → Prop) (u : Value) (w : World), L w → S a → a.Sm → a.At F w u → Calls Tryz.prog 13 #[u] w fun e w' => e = .returned (.tuple #[.string (printF a).1, .int .i64 (printF a).2]) ∧ Fr w w'
def ReadC (L : World → Prop) (S : Ln → Prop) : Prop := ∀ (a : Ln) (w : World), L w → S a → a.Sm → a.norm = true → Calls Tryz.prog 14 #[.string (textL a)] w fun e w' => ∃ x n, e = .returned (.tuple #[x, .int .i64 n, .int .i64 0]) ∧ a.At (New w w') w' x ∧ Fr w w'
theorem print_at {a : Ln} {F : Nat → Prop} {w : World} {v : Value} (hs : a.Sm) (hn : a.norm = true) (h : a.At F w v) : Calls Tryz.prog 15 #[v] w fun e w' => e = .returned (.string (textL a)) ∧ Fr w w' := by
  obtain ⟨A, B, c, d, rfl, h1, h2, _⟩ := h
  have e1 := norm_len hn
  rw [← e1.1]
  rw [← norm_fsts hn] at h1
  rw [← norm_snds hn] at h2
  exact printl_any a.P a.off A B c d _ w (norm_plen hn) (by omega) (norm_mem hs) hs.2.2 h1 h2
set_option maxHeartbeats 6400000 in
set_option maxRecDepth 100000 in
theorem prints_walk (L : World → Prop) (S : Ln → Prop) (HAL : AliveC) (HPR : PrintC L S) (HRE : ReadC L S) (a : Ln) (u : Value) (w : World) (hL : ∀ w', Fr w w' → L w') (hS : S a) (ha : a.Sm) (hu : a.At (fun g => g < w.heap.size) w u) :
    Calls Tryz.prog 4 #[u] w fun e w' => e = .returned (.bool true) ∧ Fr w w' := by
  have HLL := Lib.hid hL
  clear hL
  obtain ⟨A3, B3, c3, d3, rfl, _, _, _⟩ := id hu
  obtain ⟨p, hp⟩ : ∃ p, w.heap.size = p := ⟨_, rfl⟩
  have hbx := (Bxs.start w).add (t := 25) hu
  obtain ⟨F0, hF0⟩ : ∃ F0 : Nat → Prop, F0 = fun g => g < w.heap.size := ⟨_, rfl⟩
  rw [← hF0] at hbx hu
  rw [hp] at hbx
  have HBX := Lib.hid hbx
  clear hbx hu hF0
  go_enter Tryz.func4, Tryz.ntmps4
  go_wp2_with (go_at_call 6; refine (HAL _).mono ?_; rintro e w1 ⟨rfl, hf1⟩; replace HBX := Lib.hid (HBX.out.call hf1); clear hf1; have HB3 := Lib.hid (HBX.out.box (p, a) (by simp)); obtain ⟨A3, B3, c3, d3, hb3, ha3⟩ := HB3.out; obtain ⟨x30, x31, x32⟩ := hb3.three; have z3 := lt_of_cell x30)
  clear hp
  cases hna : a.norm with
  | false =>
    have HK := Lib.hid HBX.out.fr
    clear HB3 HBX
    have HB3 := Lib.hid (show BlkC w1 p [.slice A3 a.ss.length c3, .slice B3 a.ts.length d3, .int .i64 a.off] from hb3); have HA3 := Lib.hid ha3; clear hb3 ha3
    refine (copy_at ha HA3.out).mono ?_
    rintro e y1 ⟨x, rfl, hx, hf⟩
    clear x30 x31 x32 z3
    replace HB3 := Lib.hid (HB3.out.fr hf)
    replace HA3 := Lib.hid (HA3.out.fr hf)
    replace HK := Lib.hid (HK.out.call hf)
    obtain ⟨x30, x31, x32⟩ := HB3.out.three
    have z3 := lt_of_cell x30
    clear hf
    have HX := Lib.hid hx; clear hx
    have HQ := Lib.hid (HPR a _ x y1 (HLL.out _ HK.out) hS ha HX.out)
    unfold printF at HQ
    rw [hna] at HQ
    simp only [if_true, Bool.false_eq_true, if_false] at HQ
    go_wp2_with fail
    refine (HQ.out).mono ?_
    rintro e y2 ⟨rfl, hf⟩
    clear x30 x31 x32 z3
    replace HB3 := Lib.hid (HB3.out.fr hf)
    replace HA3 := Lib.hid (HA3.out.fr hf)
    replace HK := Lib.hid (HK.out.call hf)
    obtain ⟨x30, x31, x32⟩ := HB3.out.three
    have z3 := lt_of_cell x30
    clear hf
    clear HQ HX
    have HQ := Lib.hid (normal_at ha HA3.out)
    rw [hna] at HQ
    go_wp2_with fail
    refine (HQ.out).mono ?_
    rintro e y3 ⟨rfl, hf⟩
    clear x30 x31 x32 z3
    replace HB3 := Lib.hid (HB3.out.fr hf)
    replace HA3 := Lib.hid (HA3.out.fr hf)
    replace HK := Lib.hid (HK.out.call hf)
    obtain ⟨x30, x31, x32⟩ := HB3.out.three
    have z3 := lt_of_cell x30
    clear hf
    clear HQ
    go_wp2_with fail
    go_ret
    exact ⟨rfl, HK.out⟩
  | true =>
    have HK := Lib.hid HBX.out.fr
    clear HB3 HBX
    have HB3 := Lib.hid (show BlkC w1 p [.slice A3 a.ss.length c3, .slice B3 a.ts.length d3, .int .i64 a.off] from hb3); have HA3 := Lib.hid ha3; clear hb3 ha3
    refine (copy_at ha HA3.out).mono ?_
    rintro e y1 ⟨x, rfl, hx, hf⟩
    clear x30 x31 x32 z3
    replace HB3 := Lib.hid (HB3.out.fr hf)
    replace HA3 := Lib.hid (HA3.out.fr hf)
    replace HK := Lib.hid (HK.out.call hf)
    obtain ⟨x30, x31, x32⟩ := HB3.out.three
    have z3 := lt_of_cell x30
    clear hf
    have HX := Lib.hid hx; clear hx
    have HQ := Lib.hid (HPR a _ x y1 (HLL.out _ HK.out) hS ha HX.out)
    unfold printF at HQ
    rw [hna] at HQ
    simp only [if_true, Bool.false_eq_true, if_false] at HQ
    go_wp2_with fail
    refine (HQ.out).mono ?_
    rintro e y2 ⟨rfl, hf⟩
    clear x30 x31 x32 z3
    replace HB3 := Lib.hid (HB3.out.fr hf)
    replace HA3 := Lib.hid (HA3.out.fr hf)
    replace HK := Lib.hid (HK.out.call hf)
    obtain ⟨x30, x31, x32⟩ := HB3.out.three
    have z3 := lt_of_cell x30
    clear hf
    clear HQ HX
    have HQ := Lib.hid (normal_at ha HA3.out)
    rw [hna] at HQ
    go_wp2_with fail
    refine (HQ.out).mono ?_
    rintro e y3 ⟨rfl, hf⟩
    clear x30 x31 x32 z3
    replace HB3 := Lib.hid (HB3.out.fr hf)
    replace HA3 := Lib.hid (HA3.out.fr hf)
    replace HK := Lib.hid (HK.out.call hf)
    obtain ⟨x30, x31, x32⟩ := HB3.out.three
    have z3 := lt_of_cell x30
    clear hf
    clear HQ
    have HQ := Lib.hid (HRE a y3 (HLL.out _ HK.out) hS ha hna)
    go_wp2_with fail
    refine (HQ.out).mono ?_
    rintro e y4 ⟨x, n, rfl, hx, hf⟩
    clear x30 x31 x32 z3
    replace HB3 := Lib.hid (HB3.out.fr hf)
    replace HA3 := Lib.hid (HA3.out.fr hf)
    replace HK := Lib.hid (HK.out.call hf)
    obtain ⟨x30, x31, x32⟩ := HB3.out.three
    have z3 := lt_of_cell x30
    clear hf
    clear HQ
    obtain ⟨A5, B5, c5, d5, rfl, _, _, _⟩ := id hx
    have HA5 := Lib.hid hx; clear hx
    have kf := (Fr.refl y4).alloc (.cells #[.slice A5 a.ss.length c5, .slice B5 a.ts.length d5, .int .i64 a.off] 25)
    have HB5 := Lib.hid (BlkC.alloc (w := y4) (t := 25) (cs := #[.slice A5 a.ss.length c5, .slice B5 a.ts.length d5, .int .i64 a.off]))
    replace HB3 := Lib.hid (HB3.out.fr kf)
    replace HA3 := Lib.hid (HA3.out.fr kf)
    replace HK := Lib.hid (HK.out.call kf)
    replace HA5 := Lib.hid (HA5.out.fr kf)
    go_wp2_with fail
    clear kf
    clear x30 x31 x32 z3
    generalize World.alloc y4 (.cells #[.slice A5 a.ss.length c5, .slice B5 a.ts.length d5, .int .i64 a.off] 25) = y5 at *
    obtain ⟨q5, hq5⟩ : ∃ q, y4.heap.size = q := ⟨_, rfl⟩
    (try rw [hq5] at HB5); (try simp only [hq5]); clear hq5
    obtain ⟨x30, x31, x32⟩ := HB3.out.three
    have z3 := lt_of_cell x30
    obtain ⟨x50, x51, x52⟩ := HB5.out.three
    have z5 := lt_of_cell x50
    refine (print_at ha hna HA3.out).mono ?_
    rintro e y6 ⟨rfl, hf⟩
    clear x30 x31 x32 z3
    clear x50 x51 x52 z5
    replace HB3 := Lib.hid (HB3.out.fr hf)
    replace HA3 := Lib.hid (HA3.out.fr hf)
    replace HB5 := Lib.hid (HB5.out.fr hf)
    replace HA5 := Lib.hid (HA5.out.fr hf)
    replace HK := Lib.hid (HK.out.call hf)
    obtain ⟨x30, x31, x32⟩ := HB3.out.three
    have z3 := lt_of_cell x30
    obtain ⟨x50, x51, x52⟩ := HB5.out.three
    have z5 := lt_of_cell x50
    clear hf
    go_wp2_with fail
    refine (same_at1 ha HA5.out HA3.out).mono ?_
    rintro e y7 ⟨rfl, hf⟩
    clear x30 x31 x32 z3
    clear x50 x51 x52 z5
    replace HB3 := Lib.hid (HB3.out.fr hf)
    replace HA3 := Lib.hid (HA3.out.fr hf)
    replace HB5 := Lib.hid (HB5.out.fr hf)
    replace HA5 := Lib.hid (HA5.out.fr hf)
    replace HK := Lib.hid (HK.out.call hf)
    obtain ⟨x30, x31, x32⟩ := HB3.out.three
    have z3 := lt_of_cell x30
    obtain ⟨x50, x51, x52⟩ := HB5.out.three
    have z5 := lt_of_cell x50
    clear hf
    go_wp2_with fail
    go_ret
    exact ⟨rfl, HK.out⟩
end Go.Proofs.YtbnaakognnkhdaaGreatDoor
