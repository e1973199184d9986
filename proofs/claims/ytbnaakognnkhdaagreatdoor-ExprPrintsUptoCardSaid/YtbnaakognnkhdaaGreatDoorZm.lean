/- Add and Times answer what the document asks. -/
import Derived.Test.YtbnaakognnkhdaaGreatDoorZl
namespace Go.Proofs.YtbnaakognnkhdaaGreatDoor
open Go.RowKit
set_option linter.unusedSimpArgs false
set_option linter.unusedVariables false

set_option maxHeartbeats 800000 in
set_option maxRecDepth 100000 in
theorem tooMany_any (P : List (ByteArray × Int)) (off : Int) (mb : Option Nat) (w : World) (hM : MapP w mb P) : Calls Tryz.prog 21 #[.agg #[.map mb, .int .i64 off]] w fun e w' => e = .returned (.bool (decide (16 < P.length))) ∧ Fr w w' := by
  cases mb with
  | none =>
    obtain rfl : P = [] := hM
    have hl := fun (W : World) ty => Go.Maps.len_nil (P := Tryz.prog) (w := W) Tryz.underlying44 ty
    go_enter Tryz.func21, Tryz.ntmps21
    go_wp2
    go_ret
    exact ⟨ret_bool (by simp), (Fr.refl w).alloc _⟩
  | some b =>
    have hown : w.ownsMap Tryz.prog 9 (plainElem (H := Unit) Tryz.prog 3) b P.length (dP P) := hM
    have hl := fun (o : Obj) ty => World.ownsMap.len (hown.alloc o) Tryz.underlying44 ty
    rw [size_dP] at hl
    clear hM hown
    go_enter Tryz.func21, Tryz.ntmps21
    go_wp2
    go_ret
    exact ⟨ret_bool (by rw [Bool.eq_iff_iff]; simp; try omega), (Fr.refl w).alloc _⟩
set_option maxHeartbeats 800000 in
set_option maxRecDepth 100000 in
theorem hasSymbols_any (P : List (ByteArray × Int)) (off : Int) (mb : Option Nat) (w : World) (hM : MapP w mb P) : Calls Tryz.prog 59 #[.agg #[.map mb, .int .i64 off]] w fun e w' => e = .returned (.bool (decide (0 < P.length))) ∧ Fr w w' := by
  cases mb with
  | none =>
    obtain rfl : P = [] := hM
    have hl := fun (W : World) ty => Go.Maps.len_nil (P := Tryz.prog) (w := W) Tryz.underlying44 ty
    go_enter Tryz.func59, Tryz.ntmps59
    go_wp2
    go_ret
    exact ⟨ret_bool (by simp), (Fr.refl w).alloc _⟩
  | some b =>
    have hown : w.ownsMap Tryz.prog 9 (plainElem (H := Unit) Tryz.prog 3) b P.length (dP P) := hM
    have hl := fun (o : Obj) ty => World.ownsMap.len (hown.alloc o) Tryz.underlying44 ty
    rw [size_dP] at hl
    clear hM hown
    go_enter Tryz.func59, Tryz.ntmps59
    go_wp2
    go_ret
    exact ⟨ret_bool (by first | rfl | simp), (Fr.refl w).alloc _⟩
theorem isNormal_at {a : Ln} {F : Nat → Prop} {w : World} {v : Value} (hs : a.Sm) (h : a.At F w v) : Calls Tryz.prog 18 #[v] w fun e w' => e = .returned (.bool a.norm) ∧ Fr w w' := by
  obtain ⟨A, B, c, d, rfl, h1, h2, _⟩ := h
  exact isNormal_any a.ss a.ts a.off A B c d _ _ w rfl rfl hs.1 hs.2.1 h1 h2
theorem sumOf_at {a : Ln} {F : Nat → Prop} {w : World} {v : Value} (hs : a.Sm) (hn : a.norm = true) (h : a.At F w v) : Calls Tryz.prog 19 #[v] w fun e w' => ∃ x, e = .returned x ∧ SumV w w' x a.P a.off ∧ Fr w w' := by
  obtain ⟨A, B, c, d, rfl, h1, h2, _⟩ := h
  have e1 := norm_len hn
  rw [← e1.1]
  rw [← norm_fsts hn] at h1
  rw [← norm_snds hn] at h2
  exact sumOf_any a.P a.off A B c d _ w (norm_plen hn) (norm_asc hn) (by omega) (norm_mem hs) h1 h2
/-- A block of three cells. -/
structure B3 (w : World) (g : Nat) (x y z : Value) : Prop where
  c0 : w.cell? ⟨g, 0, none⟩ = some x
  c1 : w.cell? ⟨g, 1, none⟩ = some y
  c2 : w.cell? ⟨g, 2, none⟩ = some z
  f0 : w.frozen? ⟨g, 0, none⟩ = false
  f1 : w.frozen? ⟨g, 1, none⟩ = false
  f2 : w.frozen? ⟨g, 2, none⟩ = false
theorem B3.fr {w w' : World} {g : Nat} {x y z : Value} (h : B3 w g x y z) (k : Fr w w') : B3 w' g x y z := ⟨k.get h.c0, k.get h.c1, k.get h.c2, k.free h.c0 h.f0, k.free h.c1 h.f1, k.free h.c2 h.f2⟩
theorem B3.kp {S : Nat → Prop} {w w' : World} {g : Nat} {x y z : Value} (h : B3 w g x y z) (k : Kp S w w') (hg : ¬ S g) : B3 w' g x y z := ⟨k.get hg h.c0, k.get hg h.c1, k.get hg h.c2, k.free hg h.c0 h.f0, k.free hg h.c1 h.f1, k.free hg h.c2 h.f2⟩
theorem B3.new {w : World} {t : TypeId} {x y z : Value} {g : Nat} (hg : g = w.heap.size) : B3 (w.alloc (.cells #[x, y, z] t)) g x y z := by
  subst hg
  exact ⟨by simp [go_sem], by simp [go_sem], by simp [go_sem], by simp [go_sem], by simp [go_sem], by simp [go_sem]⟩
theorem B3.lt {w : World} {g : Nat} {x y z : Value} (h : B3 w g x y z) : g < w.heap.size := lt_of_cell h.c0
/-- The answer is put into the result's block. -/
theorem res_put {a : Ln} {F G : Nat → Prop} {w w4 : World} {rb n m c d : Nat} {A B : Option Addr} {x y z : Value} (hn : w.heap.size ≤ rb) (hK : Fr w w4) (hB : B3 w4 rb x y z) (h : a.At G w4 (.agg #[.slice A n c, .slice B m d, .int .i64 a.off])) (hG : ∀ g, G g → g ≠ rb ∧ (F g ∨ New w w4 g)) :
    ∃ w5, w5 = ((w4.setCell ⟨rb, 0, none⟩ (.slice A n c)).setCell ⟨rb, 1, none⟩ (.slice B m d)).setCell ⟨rb, 2, none⟩ (.int .i64 a.off) ∧
      (loadVar 25 ⟨rb, 0, none⟩).run Tryz.prog w5 = .ok (.agg #[.slice A n c, .slice B m d, .int .i64 a.off]) w5 ∧ a.At (Also F w w5) w5 (.agg #[.slice A n c, .slice B m d, .int .i64 a.off]) ∧ Fr w w5 := by
  obtain ⟨z0, z1, z2, _, _, _⟩ := hB
  have hsz : (((w4.setCell ⟨rb, 0, none⟩ (.slice A n c)).setCell ⟨rb, 1, none⟩ (.slice B m d)).setCell ⟨rb, 2, none⟩ (.int .i64 a.off)).heap.size = w4.heap.size := by simp
  refine ⟨_, rfl, load_lin ?_ ?_ ?_, ?_, ((hK.set (p := ⟨rb, 0, none⟩) hn _).set (p := ⟨rb, 1, none⟩) hn _).set (p := ⟨rb, 2, none⟩) hn _⟩
  · simp [go_sem, *]
  · simp [go_sem, *]
  · simp [go_sem, *]
  · refine (h.keep fun g hg => set3_heap w4 rb _ _ _ g (hG g hg).1).mono fun g hg => ?_
    rcases (hG g hg).2 with h1 | h1
    · exact .inl h1
    · exact .inr ⟨h1.1, by rw [hsz]; exact h1.2⟩
set_option maxHeartbeats 1600000 in
set_option maxRecDepth 100000 in
theorem times_c : TimesC := by
  intro a n F u w ha hn hu
  obtain ⟨A, B, c, d, rfl, hx1, hx2, hx3, hx4⟩ := id hu
  have HU := Lib.hid hu
  have HN := Lib.hid (fun W (k : Fr w W) => isNormal_at ha (hu.fr k))
  clear hx1 hx2 hx3 hx4 hu
  cases hna : a.norm with
  | false =>
    rw [hna] at HN
    have HT := Lib.hid (show timesL a n = zeroL by unfold timesL; rw [hna]; rfl)
    go_enter Tryz.func9, Tryz.ntmps9
    go_wp2_with (first
      | (go_at_call 18; refine (HN.out _ (((Fr.refl w).alloc _).alloc _)).mono ?_; rintro e w1 ⟨rfl, hf1⟩; have HB := Lib.hid ((B3.new (by simp)).fr hf1 : B3 w1 (w.heap.size + 1) (.slice none 0 0) (.slice none 0 0) (.int .i64 0)); obtain ⟨c0, c1, c2, f0, f1, f2⟩ := HB.out)
      | fail)
    obtain ⟨w5, hw5, hl5, hr5, hf5⟩ := res_put (a := zeroL) (F := F) (G := fun _ => False) (A := none) (B := none) (n := 0) (m := 0) (c := 0) (d := 0) (show w.heap.size ≤ w.heap.size + 1 by omega) ((((Fr.refl w).alloc _).alloc _).call hf1) HB.out (zero_at _ _) (fun g h => h.elim)
    simp only [zeroL] at hw5 hl5
    rw [← hw5]
    refine bodyPost_ret (v := .agg #[.slice none 0 0, .slice none 0 0, .int .i64 0]) (results_cell Tryz.results9 _ rfl hl5) rfl ⟨_, rfl, ?_, hf5⟩
    rw [HT.out]
    exact hr5
  | true =>
    rw [hna] at HN
    have HT := Lib.hid (show timesL a n = ofP (mergeP n [] a.P) (mul64 n a.off) by unfold timesL plusL; rw [hna, P_zero]; show (if true = true then _ else _) = _; rw [if_pos rfl]; show ofP _ (add64 0 _) = _; rw [zero_add64 (mul_i64 _ _)])
    have hPa := norm_asc hna
    have hPi := norm_mem ha
    have hPl : a.P.length ≤ 100000 := by have := norm_len hna; have := norm_plen hna; omega
    have hQa : ascP (mergeP n [] a.P) := merge_asc _ [] a.P (Nat.le_refl _) trivial hPa
    have hQs := merge_sm (k := n) _ [] a.P (Nat.le_refl _) (fun x h => by cases h) hPi
    have hQi := hQs.2
    have hQl : (mergeP n [] a.P).length ≤ 100000 := by have := hQs.1; simp at this; omega
    have HS := Lib.hid (fun W (k : Fr w W) => sumOf_at ha hna (HU.out.fr k))
    go_enter Tryz.func9, Tryz.ntmps9
    go_wp2_with (first
      | (go_at_call 18; refine (HN.out _ (((Fr.refl w).alloc _).alloc _)).mono ?_; rintro e w1 ⟨rfl, hf1⟩; have HB := Lib.hid ((B3.new (by simp)).fr hf1 : B3 w1 (w.heap.size + 1) (.slice none 0 0) (.slice none 0 0) (.int .i64 0)); have HA := Lib.hid (((B3.new rfl).fr ((Fr.refl _).alloc _)).fr hf1 : B3 w1 w.heap.size (.slice A a.ss.length c) (.slice B a.ts.length d) (.int .i64 a.off)); obtain ⟨c0, c1, c2, f0, f1, f2⟩ := HA.out)
      | (go_at_call 19; refine (HS.out _ ((((Fr.refl w).alloc _).alloc _).call hf1)).mono ?_; rintro e w2 ⟨v, rfl, ⟨mb, rfl, hm, hnew⟩, hf2⟩)
      | (go_at_call 23; refine (by_any a.P a.off n mb w2 hPa hPl hPi hm).mono ?_; rintro e w3 ⟨v, rfl, ⟨mb3, rfl, hm3, hnew3⟩, hf3⟩)
      | (go_at_call 22; refine (lin_any (mergeP n [] a.P) (mul64 n a.off) mb3 w3 hQa hQl hQi hm3).mono ?_; rintro e w4 ⟨v, rfl, hx, hf4⟩; obtain ⟨A5, B5, c5, d5, rfl, hx5⟩ := id hx; have HB4 := Lib.hid (((HB.out.fr hf2).fr hf3).fr hf4); obtain ⟨k0, k1, k2, g0, g1, g2⟩ := HB4.out)
      | fail)
    obtain ⟨w5, hw5, hl5, hr5, hf5⟩ := res_put (a := ofP (mergeP n [] a.P) (mul64 n a.off)) (F := F) (G := New w3 w4) (show w.heap.size ≤ w.heap.size + 1 by omega) (((((((Fr.refl w).alloc _).alloc _).call hf1).call hf2).call hf3).call hf4) HB4.out hx (fun g h => by
      have l1 := HB.out.lt
      have l2 := hf2.size
      have l3 := hf3.size
      have h1 := h.1
      exact ⟨by omega, .inr ⟨by omega, h.2⟩⟩)
    have hoff : (ofP (mergeP n [] a.P) (mul64 n a.off)).off = mul64 n a.off := rfl
    rw [hoff] at hw5 hl5 hr5
    rw [← hw5]
    refine bodyPost_ret (results_cell Tryz.results9 _ rfl hl5) rfl ⟨_, rfl, ?_, hf5⟩
    rw [HT.out]
    exact hr5
end Go.Proofs.YtbnaakognnkhdaaGreatDoor
