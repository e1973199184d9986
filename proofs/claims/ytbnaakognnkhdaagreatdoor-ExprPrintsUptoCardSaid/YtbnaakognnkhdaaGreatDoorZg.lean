/- A sum times a number. -/
import Derived.Test.YtbnaakognnkhdaaGreatDoorZf
namespace Go.Proofs.YtbnaakognnkhdaaGreatDoor
open Go.RowKit
set_option linter.unusedSimpArgs false
set_option linter.unusedVariables false

theorem box_sum {w w1 : World} {mb : Option Nat} {off : Int} (h : Fr ((w.alloc (.cells #[.map mb, .int .i64 off] 46)).alloc (.cells #[.map none, .int .i64 0] 46)) w1) :
    w1.cell? ⟨w.heap.size, 0, none⟩ = some (.map mb) ∧ w1.cell? ⟨w.heap.size, 1, none⟩ = some (.int .i64 off) ∧
      (w1.cell? ⟨w.heap.size + 1, 0, none⟩ = some (.map none) ∧ w1.cell? ⟨w.heap.size + 1, 1, none⟩ = some (.int .i64 0)) ∧ (w1.frozen? ⟨w.heap.size + 1, 0, none⟩ = false ∧ w1.frozen? ⟨w.heap.size + 1, 1, none⟩ = false) ∧ Fr w w1 := by
  have e0 : ((w.alloc (.cells #[.map mb, .int .i64 off] 46)).alloc (.cells #[.map none, .int .i64 0] 46)).cell? ⟨w.heap.size, 0, none⟩ = some (.map mb) := by simp [go_sem]
  have e1 : ((w.alloc (.cells #[.map mb, .int .i64 off] 46)).alloc (.cells #[.map none, .int .i64 0] 46)).cell? ⟨w.heap.size, 1, none⟩ = some (.int .i64 off) := by simp [go_sem]
  have e3 : ((w.alloc (.cells #[.map mb, .int .i64 off] 46)).alloc (.cells #[.map none, .int .i64 0] 46)).cell? ⟨w.heap.size + 1, 0, none⟩ = some (.map none) := by simp [go_sem]
  have e4 : ((w.alloc (.cells #[.map mb, .int .i64 off] 46)).alloc (.cells #[.map none, .int .i64 0] 46)).cell? ⟨w.heap.size + 1, 1, none⟩ = some (.int .i64 0) := by simp [go_sem]
  exact ⟨h.get e0, h.get e1, ⟨h.get e3, h.get e4⟩, ⟨h.free e3 (by simp [go_sem]), h.free e4 (by simp [go_sem])⟩, (((Fr.refl w).alloc _).alloc _).call h⟩
/-- A round of the loop over a map. -/
def RelBy (k : Int) (P1 m : List (ByteArray × Int)) (off : Int) (S : Nat → Prop) (q b r n : Nat) (W wr : World) : Prop :=
  ∃ left cnt mb', wr.ranges Tryz.prog 9 (plainElem (H := Unit) Tryz.prog 3) b r n (dP m) left cnt ∧ SAt S W q mb' (mergeP k P1 (Lf m left)) off wr
set_option maxHeartbeats 3200000 in
set_option maxRecDepth 100000 in
theorem by_some (m : List (ByteArray × Int)) (off k : Int) (b : Nat) (w : World) (hm : ascP m) (hl : m.length ≤ 100000) (im : ∀ x ∈ m, x.1.size ≤ 140737488351232 ∧ I64 x.2) (hM : MapP w (some b) m) :
    Calls Tryz.prog 23 #[.agg #[.map (some b), .int .i64 off], .int .i64 k] w fun e w' => ∃ v, e = .returned v ∧ SumV w w' v (mergeP k [] m) (mul64 k off) ∧ Fr w w' := by
  have hc : ∀ k w, Calls Tryz.prog 30 #[.int .i64 k] w fun e w' => e = .returned (.agg #[.map none, .int .i64 k]) ∧ Fr w w' := number_any
  have HM := Lib.hid hM
  have hbw := hM.lt
  clear hM
  go_enter Tryz.func23, Tryz.ntmps23
  go_wp2_with (first
    | (go_at_call 30; refine (hc _ _).mono ?_; rintro e w1 ⟨rfl, hf1⟩; have HX := Lib.hid (box_sum hf1); obtain ⟨x0, x1, _, _, _⟩ := HX.out; have z0 := lt_of_cell x0; have hown : w1.ownsMap Tryz.prog 9 (plainElem (H := Unit) Tryz.prog 3) b m.length (dP m) := HM.out.fr HX.out.2.2.2.2)
    | (at_range; refine wpList_range_own _ rfl _ 44 rfl 9 3 lawS Tryz.underlying44 _ b _ _ rfl (hown.alloc _) ?_; intro w0 hrg0 hg0 hs0)
    | fail)
  go_frame
  obtain ⟨p, hp⟩ : ∃ p, w.heap.size = p := ⟨_, rfl⟩
  rw [hp] at HX
  have hoff : wrap64 (off * k) = mul64 k off := by unfold mul64; rw [Int.mul_comm]
  rw [hoff] at hg0 hs0 hrg0 ⊢
  have HS0 := Lib.hid (show SAt (fun g => g = w1.heap.size ∨ g = (w1.alloc (.cells #[.map none, .int .i64 (mul64 k off)] 46)).heap.size) w0 w1.heap.size none (mergeP k [] (Lf m (Go.Maps.has (dP m)))) (mul64 k off) w0 by
    rw [Lf_start hm, mergeP]
    have e := SAt.start (w := w1) (off := mul64 k off) (t := 46)
    have hk := hg0.block w1.heap.size (by simp) (by simp)
    exact ⟨rfl, (heap_cell hk).trans e.c0, (heap_cell hk).trans e.c1, (heap_frozen hk).trans e.f0, (heap_frozen hk).trans e.f1, (fun b e => by cases e), .inl (.inl rfl), Kp.refl _ _⟩)
  have HK := Lib.hid (fun wr (h : Kp (fun g => g = w1.heap.size ∨ g = (w1.alloc (.cells #[.map none, .int .i64 (mul64 k off)] 46)).heap.size) w0 wr) =>
    HX.out.2.2.2.2.call ((((Kp.refl (fun g => g = w1.heap.size ∨ g = (w1.alloc (.cells #[.map none, .int .i64 (mul64 k off)] 46)).heap.size) w1).alloc (.cells #[.map none, .int .i64 (mul64 k off)] 46)).grown hg0 (fun j e => by cases e)).call h |>.to (by rintro x (rfl | rfl) <;> simp)))
  have HF := Lib.hid (show Fr w1 w0 from (((Kp.refl (fun _ => False) w1).alloc (.cells #[.map none, .int .i64 (mul64 k off)] 46)).grown hg0 (fun j e => by cases e)).to (fun x h => h.elim))
  have HZ := Lib.hid (show w1.heap.size < w0.heap.size ∧ p < w1.heap.size ∧ p + 1 < w1.heap.size ∧ b < w1.heap.size ∧ b < p ∧ w1.heap.size < (w1.alloc (.cells #[.map none, .int .i64 (mul64 k off)] 46)).heap.size ∧ w.heap.size ≤ p by
    obtain ⟨a0, _, ⟨a3, _⟩, _⟩ := HX.out
    have := hbw
    have := lt_of_cell a3
    exact ⟨by rw [hs0]; simp; omega, lt_of_cell a0, lt_of_cell a3, by omega, by omega, by simp, by omega⟩)
  have HRG := Lib.hid hrg0
  obtain ⟨r, hr⟩ : ∃ r, (w1.alloc (.cells #[.map none, .int .i64 (mul64 k off)] 46)).heap.size = r := ⟨_, rfl⟩
  simp only [hr] at *
  obtain ⟨q, hq⟩ : ∃ q, w1.heap.size = q := ⟨_, rfl⟩
  simp only [hq] at *
  simp only [hp]
  clear hown hrg0 hg0 hs0 hf1 x0 x1 z0 hc hbw
  go_loopw [16] (fun _ wr => RelBy k [] m (mul64 k off) (fun g => g = q ∨ g = r) q b r m.length w0 wr) (fun _ wr => wr.rangeLeft b r)
  case atStart => exact ⟨_, _, none, HRG.out, HS0.out⟩
  case round =>
    obtain ⟨left, cnt, mb, hrg, hs⟩ := hrel
    have HS := Lib.hid hs
    have HRGk := Lib.hid hrg
    obtain ⟨y0, y1, ⟨y3, y4⟩, ⟨g3, g4⟩, yf⟩ := HX.out
    obtain ⟨zq, zp, zr, zb, zb2, zqr, zw⟩ := HZ.out
    have kpW := hs.kp
    have HR := Lib.hid (show wr.cell? ⟨p + 1, 0, none⟩ = some (.map none) ∧ wr.cell? ⟨p + 1, 1, none⟩ = some (.int .i64 0) ∧ wr.frozen? ⟨p + 1, 0, none⟩ = false ∧ wr.frozen? ⟨p + 1, 1, none⟩ = false from
      ⟨kpW.get (show ¬ (p + 1 = q ∨ p + 1 = r) by omega) (HF.out.get y3), kpW.get (show ¬ (p + 1 = q ∨ p + 1 = r) by omega) (HF.out.get y4), kpW.free (show ¬ (p + 1 = q ∨ p + 1 = r) by omega) (HF.out.get y3) (HF.out.free y3 g3), kpW.free (show ¬ (p + 1 = q ∨ p + 1 = r) by omega) (HF.out.get y4) (HF.out.free y4 g4)⟩)
    have HFR := Lib.hid (HK.out wr kpW)
    clear kpW y0 y1 y3 y4 g3 g4 yf hs
    go_wp2_with (first
      | (at_next; refine wpList_next_ranges (α := ByteArray) (β := Int) _ rfl _ rfl 9 lawS (plainElem (H := Unit) Tryz.prog 3) Value.string (Value.int .i64) strs_inv ints_inv b r m.length _ _ _ rfl hrg ?_ ?_)
      | fail)
    · intro hc0 hl0
      have hs1 : SAt (fun g => g = q ∨ g = r) w0 q mb (mergeP k [] m) (mul64 k off) wr := by have := HS.out; rw [Lf_end hl0] at this; exact this
      have c0 := hs1.c0
      have c1 := hs1.c1
      obtain ⟨r0, r1, r2, r3⟩ := HR.out
      have zr' := lt_of_cell r0
      have zq' := lt_of_cell c0
      have HE := Lib.hid hs1
      clear hs1
      go_wp2
      obtain ⟨w5, hw5, hl5, hv5, hf5⟩ := sum_end (off := mul64 k off) (show w.heap.size ≤ p + 1 by omega) HFR.out r0 r1 r2 r3 HE.out.map (fun b e => by rcases HE.out.new b e with (h | h) | h <;> omega)
      rw [← hw5]
      exact bodyPost_ret (v := .agg #[.map mb, .int .i64 (mul64 k off)]) (results_cell Tryz.results23 _ rfl hl5) rfl ⟨_, rfl, hv5, hf5⟩
    · intro x c kl ya yb w2 cnt1 hkey hlx hR hat hrg1 hlt hg1 hs1 hen
      have HC := Lib.hid (cnt_step (y := (ya, yb)) (v := wrap64 (c * k)) (P1 := []) trivial (fun x hx => by cases hx) hm im (by simp; omega) hrg HS.out hg1 hrg1 (.inr rfl) (show ¬ (b = q ∨ b = r) by omega) (show b < w0.heap.size by omega) hkey hlx hR hat (by unfold mul64; rw [Int.mul_comm]))
      have hle := hrg.left_eq
      have HRN := Lib.hid hrg1
      clear hrg hg1 hR hat hrg1
      go_wp2_with (first
        | (go_at_call 31; refine (HC.out).mono ?_; rintro e w3 ⟨⟨v, rfl⟩, mb2, hs2, hrg2⟩)
        | fail)
      go_roundw
      case rel => exact ⟨_, cnt1, mb2, hrg2, hs2⟩
      case measure => rw [hrg2.left_eq, hle]; exact hlt
set_option maxHeartbeats 3200000 in
set_option maxRecDepth 100000 in
theorem by_none (off k : Int) (w : World) :
    Calls Tryz.prog 23 #[.agg #[.map none, .int .i64 off], .int .i64 k] w fun e w' => ∃ v, e = .returned v ∧ SumV w w' v [] (mul64 k off) ∧ Fr w w' := by
  have hc : ∀ k w, Calls Tryz.prog 30 #[.int .i64 k] w fun e w' => e = .returned (.agg #[.map none, .int .i64 k]) ∧ Fr w w' := number_any
  have hrg := fun W : World => run_range_nilMap (P := Tryz.prog) W 44 9 3 Tryz.underlying44
  have hoff : wrap64 (off * k) = mul64 k off := by unfold mul64; rw [Int.mul_comm]
  go_enter Tryz.func23, Tryz.ntmps23
  go_wp2_with (first
    | (go_at_call 30; refine (hc _ _).mono ?_; rintro e w1 ⟨rfl, hf1⟩; have HX := Lib.hid (box_sum hf1); obtain ⟨x0, x1, ⟨x2, x3⟩, ⟨x4, x5⟩, x6⟩ := HX.out; have z0 := lt_of_cell x0; have z2 := lt_of_cell x2; clear hc)
    | fail)
  have hnx := fun ty => run_next_nilMap (P := Tryz.prog) (w1.alloc (.cells #[.map none, .int .i64 (mul64 k off)] 46)) ty 0 0 #[]
  simp only [World.size_alloc] at hnx
  refine wp_loop_rounds 1 ?_
  rw [rounds_succ]
  go_wp2
  exact bodyPost_ret (v := .agg #[.map none, .int .i64 (mul64 k off)]) (results_cell Tryz.results23 _ rfl (load_sum (by simp [go_sem, *]) (by simp [go_sem, *]))) rfl
    ⟨_, rfl, ⟨none, rfl, rfl, fun b e => by cases e⟩, (((x6.set (p := ⟨w.heap.size + 1, 0, none⟩) (by simp) _).set (p := ⟨w.heap.size + 1, 1, none⟩) (by simp) _).alloc _).alloc _⟩
/-- A sum times a number. -/
theorem by_any (m : List (ByteArray × Int)) (off k : Int) (mb : Option Nat) (w : World) (hm : ascP m) (hl : m.length ≤ 100000) (im : ∀ x ∈ m, x.1.size ≤ 140737488351232 ∧ I64 x.2) (hM : MapP w mb m) :
    Calls Tryz.prog 23 #[.agg #[.map mb, .int .i64 off], .int .i64 k] w fun e w' => ∃ v, e = .returned v ∧ SumV w w' v (mergeP k [] m) (mul64 k off) ∧ Fr w w' := by
  cases mb with
  | some b => exact by_some m off k b w hm hl im hM
  | none =>
    obtain rfl : m = [] := hM
    rw [mergeP]
    exact by_none off k w
end Go.Proofs.YtbnaakognnkhdaaGreatDoor
