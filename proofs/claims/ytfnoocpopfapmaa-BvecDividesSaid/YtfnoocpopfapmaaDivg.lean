/- BvecDivides's walk: two normal numbers of one width. -/
import Derived.Test.YtfnoocpopfapmaaDivs
import Derived.Test.YtfnoocpopfapmaaWid
namespace Go.Proofs.Ytfnoocpopfapmaa
open Go.RowKit

/-- Where the two answers lie. -/
def DV (W0 : World) (W q r : Int) (s t : Value) (wx : World) : Prop :=
  ∃ p p' : Nat, s = .pointer (some ⟨p, 0, none⟩) ∧ t = .pointer (some ⟨p', 0, none⟩) ∧ C3 wx p (.int .i64 W) (.int .u64 (hi q)) (.int .u64 (lo q)) ∧ C3 wx p' (.int .i64 W) (.int .u64 (hi r)) (.int .u64 (lo r)) ∧ Fr W0 wx
set_option maxHeartbeats 6400000 in
set_option maxRecDepth 100000 in
theorem div_nz (W v u : Int) (h : Norm W v) (k : Norm W u) (A B C D M N X y : Int) (b10 : (∀ w : World, Calls Try.prog 9 #[.int .i64 10, bv W v, bv W u] w fun e w' => e = .returned (bv W A) ∧ Fr w w')) (b11 : (∀ w : World, Calls Try.prog 9 #[.int .i64 11, bv W v, bv W u] w fun e w' => e = .returned (bv W B) ∧ Fr w w')) (b12 : (∀ w : World, Calls Try.prog 9 #[.int .i64 12, bv W v, bv W u] w fun e w' => e = .returned (bv W C) ∧ Fr w w')) (b13 : (∀ w : World, Calls Try.prog 9 #[.int .i64 13, bv W v, bv W u] w fun e w' => e = .returned (bv W D) ∧ Fr w w')) (m1 : (∀ w : World, Calls Try.prog 9 #[.int .i64 3, bv W A, bv W u] w fun e w' => e = .returned (bv W M) ∧ Fr w w')) (m2 : (∀ w : World, Calls Try.prog 9 #[.int .i64 3, bv W C, bv W u] w fun e w' => e = .returned (bv W N) ∧ Fr w w')) (s1 : (∀ w : World, Calls Try.prog 9 #[.int .i64 1, bv W M, bv W B] w fun e w' => e = .returned (bv W v) ∧ Fr w w')) (s2 : (∀ w : World, Calls Try.prog 9 #[.int .i64 1, bv W N, bv W D] w fun e w' => e = .returned (bv W v) ∧ Fr w w')) (l1 : (∀ w : World, Calls Try.prog 9 #[.int .i64 15, bv W B, bv W u] w fun e w' => e = .returned (bv X y) ∧ Fr w w')) (ly : (lo y == 1) = true) (hz : (hi u == 0) = true ∧ (lo u == 0) = false ∨ (hi u == 0) = false) (w : World) :
    Calls Try.prog 7 #[bv W v, bv W u] w fun e w' => e = .returned (.bool true) ∧ Fr w w' := by
  have HA := Lib.hid alive
  have HN := Lib.hid (fun wx => normal_any W v h.2.2.1 h.lt128 wx)
  rw [norm_to h] at HN
  have HM := Lib.hid (fun wx => normal_any W u k.2.2.1 k.lt128 wx)
  rw [norm_to k] at HM
  have H10 := Lib.hid b10
  have H11 := Lib.hid b11
  have H12 := Lib.hid b12
  have H13 := Lib.hid b13
  have HM1 := Lib.hid m1
  have HM2 := Lib.hid m2
  have HA1 := Lib.hid s1
  have HA2 := Lib.hid s2
  have HL := Lib.hid l1
  clear m1 m2 s1 s2 l1 b10 b11 b12 b13
  obtain ⟨b1, b2⟩ := two_boxes w (.int .i64 W) (.int .u64 (hi v)) (.int .u64 (lo v)) (.int .i64 W) (.int .u64 (hi u)) (.int .u64 (lo u))
  have BA := Lib.hid b1
  have BB := Lib.hid b2
  have fd := field0
  have fd2 := field2
  clear b1 b2 h k
  go_enter Try.func7, Try.ntmps7
  go_wp2_with fail
  refine (HA.out _).mono ?_
  rintro e w1 ⟨rfl, hf⟩
  have HS1 := Lib.hid hf
  obtain ⟨a0, a1, a2⟩ := (BA.out.fr HS1.out).three
  obtain ⟨c0, c1, c2⟩ := (BB.out.fr HS1.out).three
  clear hf
  go_wp2_with fail
  refine (HN.out _).mono ?_
  rintro e w2 ⟨rfl, hf⟩
  have HS2 := Lib.hid (HS1.out.call hf)
  obtain ⟨a3, a4, a5⟩ := (BA.out.fr HS2.out).three
  obtain ⟨c3, c4, c5⟩ := (BB.out.fr HS2.out).three
  clear hf
  go_wp2_with fail
  refine (HM.out _).mono ?_
  rintro e w3 ⟨rfl, hf⟩
  have HS3 := Lib.hid (HS2.out.call hf)
  obtain ⟨a6, a7, a8⟩ := (BA.out.fr HS3.out).three
  obtain ⟨c6, c7, c8⟩ := (BB.out.fr HS3.out).three
  clear hf
  go_wp2_with fail
  have HW := Lib.hid (HS3.out.alloc (.cells #[Value.int IntKind.i64 10, Value.int IntKind.i64 12] 3))
  have HB := Lib.hid (Bk.new w3 3 #[Value.int IntKind.i64 10, Value.int IntKind.i64 12])
  clear a0 a1 a2 c0 c1 c2 a3 a4 a5 c3 c4 c5 a6 a7 a8 c6 c7 c8 HS1 HS2 HS3 HA HN HM
  have HW11 := Lib.hid (show ∀ w : World, Calls Try.prog 9 #[.int .i64 (IntKind.i64.wrap 11), bv W v, bv W u] w fun e w' => e = .returned (bv W B) ∧ Fr w w' from (show IntKind.i64.wrap 11 = 11 by decide).symm ▸ H11.out)
  have HW13 := Lib.hid (show ∀ w : World, Calls Try.prog 9 #[.int .i64 (IntKind.i64.wrap 13), bv W v, bv W u] w fun e w' => e = .returned (bv W D) ∧ Fr w w' from (show IntKind.i64.wrap 13 = 13 by decide).symm ▸ H13.out)
  have HFW := Lib.hid (((Fr.refl w).alloc _ |>.alloc _).call HW.out)
  have BA0 := Lib.hid (BA.out.fr HW.out)
  have BB0 := Lib.hid (BB.out.fr HW.out)
  clear BA BB HW
  generalize w3.heap.size = g at *
  generalize w3.alloc (.cells #[Value.int IntKind.i64 10, Value.int IntKind.i64 12] 3) = W0 at *
  go_loopw [33] (fun i wr => (i = .int .i64 0 ∨ i = .int .i64 1 ∨ i = .int .i64 2) ∧ Fr W0 wr) (fun i _ => (2 - intOf i).toNat)
  case atStart => exact ⟨.inl rfl, Fr.refl _⟩
  case round =>
    obtain ⟨rfl | rfl | rfl, hfr⟩ := hrel
    · have HR := Lib.hid hfr
      obtain ⟨a0, a1, a2⟩ := (BA0.out.fr hfr).three
      obtain ⟨c0, c1, c2⟩ := (BB0.out.fr hfr).three
      obtain ⟨g0, g1⟩ := (HB.out.fr hfr).two
      have za := lt_of_cell a0
      have zb := lt_of_cell c0
      have hsr := hfr.size
      clear hfr
      go_wp2_with fail
      go_cut [7, 8] (fun s t wx => DV W0 W A B s t wx)
      case first =>
        go_region_held3 (fun w' => World.cell? w' ⟨w.heap.size, 0, none⟩ = some (.int .i64 W) ∧ World.cell? w' ⟨w.heap.size, 1, none⟩ = some (.int .u64 (hi v)) ∧ World.cell? w' ⟨w.heap.size, 2, none⟩ = some (.int .u64 (lo v)) ∧ World.cell? w' ⟨w.heap.size + 1, 0, none⟩ = some (.int .i64 W) ∧ World.cell? w' ⟨w.heap.size + 1, 1, none⟩ = some (.int .u64 (hi u)) ∧ World.cell? w' ⟨w.heap.size + 1, 2, none⟩ = some (.int .u64 (lo u))) (simp [go_sem, *])
          (first
            | (go_at_call_of 9 (Value.int IntKind.i64 10); refine (H10.out _).mono ?_; rintro e x1 ⟨rfl, hf⟩; have HX1 := Lib.hid hf; have hz1 := hf.size; (try simp at hz1); have p1_0 := hf.get (b := w.heap.size) (o := 0) (v := .int .i64 W) (by first | (simp [go_sem]; done) | (simp [go_sem, *]; done)); have p1_1 := hf.get (b := w.heap.size) (o := 1) (v := .int .u64 (hi v)) (by first | (simp [go_sem]; done) | (simp [go_sem, *]; done)); have p1_2 := hf.get (b := w.heap.size) (o := 2) (v := .int .u64 (lo v)) (by first | (simp [go_sem]; done) | (simp [go_sem, *]; done)); have q1_0 := hf.get (b := w.heap.size + 1) (o := 0) (v := .int .i64 W) (by first | (simp [go_sem]; done) | (simp [go_sem, *]; done)); have q1_1 := hf.get (b := w.heap.size + 1) (o := 1) (v := .int .u64 (hi u)) (by first | (simp [go_sem]; done) | (simp [go_sem, *]; done)); have q1_2 := hf.get (b := w.heap.size + 1) (o := 2) (v := .int .u64 (lo u)) (by first | (simp [go_sem]; done) | (simp [go_sem, *]; done)); have za1 := lt_of_cell p1_0; have zb1 := lt_of_cell q1_0; have d1_0 := fun h => hf.get (b := wr.heap.size) (o := 0) (v := .int .i64 0) h; (try simp [go_sem, *] at d1_0); have e1_0 := fun h h2 => hf.free (b := wr.heap.size) (o := 0) (v := .int .i64 0) h h2; (try simp [go_sem, *] at e1_0); have d1_1 := fun h => hf.get (b := wr.heap.size) (o := 1) (v := .int .u64 0) h; (try simp [go_sem, *] at d1_1); have e1_1 := fun h h2 => hf.free (b := wr.heap.size) (o := 1) (v := .int .u64 0) h h2; (try simp [go_sem, *] at e1_1); have d1_2 := fun h => hf.get (b := wr.heap.size) (o := 2) (v := .int .u64 0) h; (try simp [go_sem, *] at d1_2); have e1_2 := fun h h2 => hf.free (b := wr.heap.size) (o := 2) (v := .int .u64 0) h h2; (try simp [go_sem, *] at e1_2); have l1_3 := fun h => lt_of_cell (hf.get (b := wr.heap.size) (o := 0) (v := .int .i64 0) h); (try simp [go_sem, *] at l1_3); have d1_3 := fun h => hf.get (b := wr.heap.size + 1) (o := 0) (v := .int .i64 0) h; (try simp [go_sem, *] at d1_3); have e1_3 := fun h h2 => hf.free (b := wr.heap.size + 1) (o := 0) (v := .int .i64 0) h h2; (try simp [go_sem, *] at e1_3); have d1_4 := fun h => hf.get (b := wr.heap.size + 1) (o := 1) (v := .int .u64 0) h; (try simp [go_sem, *] at d1_4); have e1_4 := fun h h2 => hf.free (b := wr.heap.size + 1) (o := 1) (v := .int .u64 0) h h2; (try simp [go_sem, *] at e1_4); have d1_5 := fun h => hf.get (b := wr.heap.size + 1) (o := 2) (v := .int .u64 0) h; (try simp [go_sem, *] at d1_5); have e1_5 := fun h h2 => hf.free (b := wr.heap.size + 1) (o := 2) (v := .int .u64 0) h h2; (try simp [go_sem, *] at e1_5); have l1_6 := fun h => lt_of_cell (hf.get (b := wr.heap.size + 1) (o := 0) (v := .int .i64 0) h); (try simp [go_sem, *] at l1_6); clear hf)
            | (go_at_call_of 9 (Value.int IntKind.i64 (IntKind.i64.wrap 11)); refine (HW11.out _).mono ?_; rintro e x2 ⟨rfl, hf⟩; have HX2 := Lib.hid hf; have hz2 := hf.size; (try simp at hz2); have p2_0 := hf.get (b := w.heap.size) (o := 0) (v := .int .i64 W) (by first | (simp [go_sem]; done) | (simp [go_sem, *]; done)); have p2_1 := hf.get (b := w.heap.size) (o := 1) (v := .int .u64 (hi v)) (by first | (simp [go_sem]; done) | (simp [go_sem, *]; done)); have p2_2 := hf.get (b := w.heap.size) (o := 2) (v := .int .u64 (lo v)) (by first | (simp [go_sem]; done) | (simp [go_sem, *]; done)); have q2_0 := hf.get (b := w.heap.size + 1) (o := 0) (v := .int .i64 W) (by first | (simp [go_sem]; done) | (simp [go_sem, *]; done)); have q2_1 := hf.get (b := w.heap.size + 1) (o := 1) (v := .int .u64 (hi u)) (by first | (simp [go_sem]; done) | (simp [go_sem, *]; done)); have q2_2 := hf.get (b := w.heap.size + 1) (o := 2) (v := .int .u64 (lo u)) (by first | (simp [go_sem]; done) | (simp [go_sem, *]; done)); have za2 := lt_of_cell p2_0; have zb2 := lt_of_cell q2_0; have d2_0 := fun h => hf.get (b := wr.heap.size) (o := 0) (v := .int .i64 0) h; (try simp [go_sem, *] at d2_0); have e2_0 := fun h h2 => hf.free (b := wr.heap.size) (o := 0) (v := .int .i64 0) h h2; (try simp [go_sem, *] at e2_0); have d2_1 := fun h => hf.get (b := wr.heap.size) (o := 1) (v := .int .u64 0) h; (try simp [go_sem, *] at d2_1); have e2_1 := fun h h2 => hf.free (b := wr.heap.size) (o := 1) (v := .int .u64 0) h h2; (try simp [go_sem, *] at e2_1); have d2_2 := fun h => hf.get (b := wr.heap.size) (o := 2) (v := .int .u64 0) h; (try simp [go_sem, *] at d2_2); have e2_2 := fun h h2 => hf.free (b := wr.heap.size) (o := 2) (v := .int .u64 0) h h2; (try simp [go_sem, *] at e2_2); have d2_3 := fun h => hf.get (b := wr.heap.size) (o := 0) (v := .int .i64 W) h; (try simp [go_sem, *] at d2_3); have e2_3 := fun h h2 => hf.free (b := wr.heap.size) (o := 0) (v := .int .i64 W) h h2; (try simp [go_sem, *] at e2_3); have d2_4 := fun h => hf.get (b := wr.heap.size) (o := 1) (v := .int .u64 (hi A)) h; (try simp [go_sem, *] at d2_4); have e2_4 := fun h h2 => hf.free (b := wr.heap.size) (o := 1) (v := .int .u64 (hi A)) h h2; (try simp [go_sem, *] at e2_4); have d2_5 := fun h => hf.get (b := wr.heap.size) (o := 2) (v := .int .u64 (lo A)) h; (try simp [go_sem, *] at d2_5); have e2_5 := fun h h2 => hf.free (b := wr.heap.size) (o := 2) (v := .int .u64 (lo A)) h h2; (try simp [go_sem, *] at e2_5); have l2_6 := fun h => lt_of_cell (hf.get (b := wr.heap.size) (o := 0) (v := .int .i64 0) h); (try simp [go_sem, *] at l2_6); have d2_6 := fun h => hf.get (b := wr.heap.size + 1) (o := 0) (v := .int .i64 0) h; (try simp [go_sem, *] at d2_6); have e2_6 := fun h h2 => hf.free (b := wr.heap.size + 1) (o := 0) (v := .int .i64 0) h h2; (try simp [go_sem, *] at e2_6); have d2_7 := fun h => hf.get (b := wr.heap.size + 1) (o := 1) (v := .int .u64 0) h; (try simp [go_sem, *] at d2_7); have e2_7 := fun h h2 => hf.free (b := wr.heap.size + 1) (o := 1) (v := .int .u64 0) h h2; (try simp [go_sem, *] at e2_7); have d2_8 := fun h => hf.get (b := wr.heap.size + 1) (o := 2) (v := .int .u64 0) h; (try simp [go_sem, *] at d2_8); have e2_8 := fun h h2 => hf.free (b := wr.heap.size + 1) (o := 2) (v := .int .u64 0) h h2; (try simp [go_sem, *] at e2_8); have d2_9 := fun h => hf.get (b := wr.heap.size + 1) (o := 0) (v := .int .i64 W) h; (try simp [go_sem, *] at d2_9); have e2_9 := fun h h2 => hf.free (b := wr.heap.size + 1) (o := 0) (v := .int .i64 W) h h2; (try simp [go_sem, *] at e2_9); have d2_10 := fun h => hf.get (b := wr.heap.size + 1) (o := 1) (v := .int .u64 (hi A)) h; (try simp [go_sem, *] at d2_10); have e2_10 := fun h h2 => hf.free (b := wr.heap.size + 1) (o := 1) (v := .int .u64 (hi A)) h h2; (try simp [go_sem, *] at e2_10); have d2_11 := fun h => hf.get (b := wr.heap.size + 1) (o := 2) (v := .int .u64 (lo A)) h; (try simp [go_sem, *] at d2_11); have e2_11 := fun h h2 => hf.free (b := wr.heap.size + 1) (o := 2) (v := .int .u64 (lo A)) h h2; (try simp [go_sem, *] at e2_11); have l2_12 := fun h => lt_of_cell (hf.get (b := wr.heap.size + 1) (o := 0) (v := .int .i64 0) h); (try simp [go_sem, *] at l2_12); have d2_12 := fun h => hf.get (b := x1.heap.size) (o := 0) (v := .int .i64 0) h; (try simp [go_sem, *] at d2_12); have e2_12 := fun h h2 => hf.free (b := x1.heap.size) (o := 0) (v := .int .i64 0) h h2; (try simp [go_sem, *] at e2_12); have d2_13 := fun h => hf.get (b := x1.heap.size) (o := 1) (v := .int .u64 0) h; (try simp [go_sem, *] at d2_13); have e2_13 := fun h h2 => hf.free (b := x1.heap.size) (o := 1) (v := .int .u64 0) h h2; (try simp [go_sem, *] at e2_13); have d2_14 := fun h => hf.get (b := x1.heap.size) (o := 2) (v := .int .u64 0) h; (try simp [go_sem, *] at d2_14); have e2_14 := fun h h2 => hf.free (b := x1.heap.size) (o := 2) (v := .int .u64 0) h h2; (try simp [go_sem, *] at e2_14); have d2_15 := fun h => hf.get (b := x1.heap.size) (o := 0) (v := .int .i64 W) h; (try simp [go_sem, *] at d2_15); have e2_15 := fun h h2 => hf.free (b := x1.heap.size) (o := 0) (v := .int .i64 W) h h2; (try simp [go_sem, *] at e2_15); have d2_16 := fun h => hf.get (b := x1.heap.size) (o := 1) (v := .int .u64 (hi A)) h; (try simp [go_sem, *] at d2_16); have e2_16 := fun h h2 => hf.free (b := x1.heap.size) (o := 1) (v := .int .u64 (hi A)) h h2; (try simp [go_sem, *] at e2_16); have d2_17 := fun h => hf.get (b := x1.heap.size) (o := 2) (v := .int .u64 (lo A)) h; (try simp [go_sem, *] at d2_17); have e2_17 := fun h h2 => hf.free (b := x1.heap.size) (o := 2) (v := .int .u64 (lo A)) h h2; (try simp [go_sem, *] at e2_17); have l2_18 := fun h => lt_of_cell (hf.get (b := x1.heap.size) (o := 0) (v := .int .i64 0) h); (try simp [go_sem, *] at l2_18); have d2_18 := fun h => hf.get (b := x1.heap.size + 1) (o := 0) (v := .int .i64 0) h; (try simp [go_sem, *] at d2_18); have e2_18 := fun h h2 => hf.free (b := x1.heap.size + 1) (o := 0) (v := .int .i64 0) h h2; (try simp [go_sem, *] at e2_18); have d2_19 := fun h => hf.get (b := x1.heap.size + 1) (o := 1) (v := .int .u64 0) h; (try simp [go_sem, *] at d2_19); have e2_19 := fun h h2 => hf.free (b := x1.heap.size + 1) (o := 1) (v := .int .u64 0) h h2; (try simp [go_sem, *] at e2_19); have d2_20 := fun h => hf.get (b := x1.heap.size + 1) (o := 2) (v := .int .u64 0) h; (try simp [go_sem, *] at d2_20); have e2_20 := fun h h2 => hf.free (b := x1.heap.size + 1) (o := 2) (v := .int .u64 0) h h2; (try simp [go_sem, *] at e2_20); have d2_21 := fun h => hf.get (b := x1.heap.size + 1) (o := 0) (v := .int .i64 W) h; (try simp [go_sem, *] at d2_21); have e2_21 := fun h h2 => hf.free (b := x1.heap.size + 1) (o := 0) (v := .int .i64 W) h h2; (try simp [go_sem, *] at e2_21); have d2_22 := fun h => hf.get (b := x1.heap.size + 1) (o := 1) (v := .int .u64 (hi A)) h; (try simp [go_sem, *] at d2_22); have e2_22 := fun h h2 => hf.free (b := x1.heap.size + 1) (o := 1) (v := .int .u64 (hi A)) h h2; (try simp [go_sem, *] at e2_22); have d2_23 := fun h => hf.get (b := x1.heap.size + 1) (o := 2) (v := .int .u64 (lo A)) h; (try simp [go_sem, *] at d2_23); have e2_23 := fun h h2 => hf.free (b := x1.heap.size + 1) (o := 2) (v := .int .u64 (lo A)) h h2; (try simp [go_sem, *] at e2_23); have l2_24 := fun h => lt_of_cell (hf.get (b := x1.heap.size + 1) (o := 0) (v := .int .i64 0) h); (try simp [go_sem, *] at l2_24); clear hf))
        all_goals
          go_wp2_with fail
          go_meet
          refine ⟨_, _, rfl, rfl, ⟨?_, ?_, ?_⟩, ⟨?_, ?_, ?_⟩, ?_⟩
          all_goals first | (simp [go_sem, *]; done) | (simp; omega) | ((repeat (first | with_reducible exact HR.out | with_reducible apply Fr.drewN | with_reducible apply Fr.drew | with_reducible apply Fr.alloc | (with_reducible refine Fr.set ?_ (by simp; try omega) _) | (with_reducible refine Fr.call ?_ HX2.out) | (with_reducible refine Fr.call ?_ HX1.out))); done)
      case rest =>
        obtain ⟨p, p', rfl, rfl, hp, hq, hfc⟩ := hcut
        have HC := Lib.hid hfc
        have HP := Lib.hid hp
        have HQ := Lib.hid hq
        obtain ⟨a3, a4, a5⟩ := (BA0.out.fr hfc).three
        obtain ⟨c3, c4, c5⟩ := (BB0.out.fr hfc).three
        clear hp hq hfc
        rcases hz with ⟨z1, z2⟩ | z1
        all_goals
          go_wp2_with fail
          have y0 := fun ex : Ext wc => ex.get a3
          have y1 := fun ex : Ext wc => ex.get a4
          have y2 := fun ex : Ext wc => ex.get a5
          have y3 := fun ex : Ext wc => ex.get c3
          have y4 := fun ex : Ext wc => ex.get c4
          have y5 := fun ex : Ext wc => ex.get c5
          have y6 := fun ex : Ext wc => ex.get HP.out.1
          have y7 := fun ex : Ext wc => ex.get HP.out.2.1
          have y8 := fun ex : Ext wc => ex.get HP.out.2.2
          have y9 := fun ex : Ext wc => ex.get HQ.out.1
          have yA := fun ex : Ext wc => ex.get HQ.out.2.1
          have yB := fun ex : Ext wc => ex.get HQ.out.2.2
          refine wp_region_ext (by kernel_rfl) (by kernel_rfl) ?_
          repeat (go_big_quiet_step (first
            | (go_at_call_of 9 (Value.int IntKind.i64 3); exact ext_of (HM1.out _))
            | (go_at_call_of 9 (Value.int IntKind.i64 1); exact ext_of (HA1.out _))))
          refine wpQuiet_nil ?_
          intro w5 hw5
          obtain ⟨y5', rfl⟩ := hw5
          have HF := Lib.hid (HC.out.call y5'.fr)
          go_wp2
          go_roundw
          case rel => exact ⟨.inr (.inl rfl), HF.out⟩
          case measure => simp [intOf]
    · have HR := Lib.hid hfr
      obtain ⟨a0, a1, a2⟩ := (BA0.out.fr hfr).three
      obtain ⟨c0, c1, c2⟩ := (BB0.out.fr hfr).three
      obtain ⟨g0, g1⟩ := (HB.out.fr hfr).two
      have za := lt_of_cell a0
      have zb := lt_of_cell c0
      have hsr := hfr.size
      clear hfr
      go_wp2_with fail
      go_cut [7, 8] (fun s t wx => DV W0 W C D s t wx)
      case first =>
        go_region_held3 (fun w' => World.cell? w' ⟨w.heap.size, 0, none⟩ = some (.int .i64 W) ∧ World.cell? w' ⟨w.heap.size, 1, none⟩ = some (.int .u64 (hi v)) ∧ World.cell? w' ⟨w.heap.size, 2, none⟩ = some (.int .u64 (lo v)) ∧ World.cell? w' ⟨w.heap.size + 1, 0, none⟩ = some (.int .i64 W) ∧ World.cell? w' ⟨w.heap.size + 1, 1, none⟩ = some (.int .u64 (hi u)) ∧ World.cell? w' ⟨w.heap.size + 1, 2, none⟩ = some (.int .u64 (lo u))) (simp [go_sem, *])
          (first
            | (go_at_call_of 9 (Value.int IntKind.i64 12); refine (H12.out _).mono ?_; rintro e x1 ⟨rfl, hf⟩; have HX1 := Lib.hid hf; have hz1 := hf.size; (try simp at hz1); have p1_0 := hf.get (b := w.heap.size) (o := 0) (v := .int .i64 W) (by first | (simp [go_sem]; done) | (simp [go_sem, *]; done)); have p1_1 := hf.get (b := w.heap.size) (o := 1) (v := .int .u64 (hi v)) (by first | (simp [go_sem]; done) | (simp [go_sem, *]; done)); have p1_2 := hf.get (b := w.heap.size) (o := 2) (v := .int .u64 (lo v)) (by first | (simp [go_sem]; done) | (simp [go_sem, *]; done)); have q1_0 := hf.get (b := w.heap.size + 1) (o := 0) (v := .int .i64 W) (by first | (simp [go_sem]; done) | (simp [go_sem, *]; done)); have q1_1 := hf.get (b := w.heap.size + 1) (o := 1) (v := .int .u64 (hi u)) (by first | (simp [go_sem]; done) | (simp [go_sem, *]; done)); have q1_2 := hf.get (b := w.heap.size + 1) (o := 2) (v := .int .u64 (lo u)) (by first | (simp [go_sem]; done) | (simp [go_sem, *]; done)); have za1 := lt_of_cell p1_0; have zb1 := lt_of_cell q1_0; have d1_0 := fun h => hf.get (b := wr.heap.size) (o := 0) (v := .int .i64 0) h; (try simp [go_sem, *] at d1_0); have e1_0 := fun h h2 => hf.free (b := wr.heap.size) (o := 0) (v := .int .i64 0) h h2; (try simp [go_sem, *] at e1_0); have d1_1 := fun h => hf.get (b := wr.heap.size) (o := 1) (v := .int .u64 0) h; (try simp [go_sem, *] at d1_1); have e1_1 := fun h h2 => hf.free (b := wr.heap.size) (o := 1) (v := .int .u64 0) h h2; (try simp [go_sem, *] at e1_1); have d1_2 := fun h => hf.get (b := wr.heap.size) (o := 2) (v := .int .u64 0) h; (try simp [go_sem, *] at d1_2); have e1_2 := fun h h2 => hf.free (b := wr.heap.size) (o := 2) (v := .int .u64 0) h h2; (try simp [go_sem, *] at e1_2); have l1_3 := fun h => lt_of_cell (hf.get (b := wr.heap.size) (o := 0) (v := .int .i64 0) h); (try simp [go_sem, *] at l1_3); have d1_3 := fun h => hf.get (b := wr.heap.size + 1) (o := 0) (v := .int .i64 0) h; (try simp [go_sem, *] at d1_3); have e1_3 := fun h h2 => hf.free (b := wr.heap.size + 1) (o := 0) (v := .int .i64 0) h h2; (try simp [go_sem, *] at e1_3); have d1_4 := fun h => hf.get (b := wr.heap.size + 1) (o := 1) (v := .int .u64 0) h; (try simp [go_sem, *] at d1_4); have e1_4 := fun h h2 => hf.free (b := wr.heap.size + 1) (o := 1) (v := .int .u64 0) h h2; (try simp [go_sem, *] at e1_4); have d1_5 := fun h => hf.get (b := wr.heap.size + 1) (o := 2) (v := .int .u64 0) h; (try simp [go_sem, *] at d1_5); have e1_5 := fun h h2 => hf.free (b := wr.heap.size + 1) (o := 2) (v := .int .u64 0) h h2; (try simp [go_sem, *] at e1_5); have l1_6 := fun h => lt_of_cell (hf.get (b := wr.heap.size + 1) (o := 0) (v := .int .i64 0) h); (try simp [go_sem, *] at l1_6); clear hf)
            | (go_at_call_of 9 (Value.int IntKind.i64 (IntKind.i64.wrap 13)); refine (HW13.out _).mono ?_; rintro e x2 ⟨rfl, hf⟩; have HX2 := Lib.hid hf; have hz2 := hf.size; (try simp at hz2); have p2_0 := hf.get (b := w.heap.size) (o := 0) (v := .int .i64 W) (by first | (simp [go_sem]; done) | (simp [go_sem, *]; done)); have p2_1 := hf.get (b := w.heap.size) (o := 1) (v := .int .u64 (hi v)) (by first | (simp [go_sem]; done) | (simp [go_sem, *]; done)); have p2_2 := hf.get (b := w.heap.size) (o := 2) (v := .int .u64 (lo v)) (by first | (simp [go_sem]; done) | (simp [go_sem, *]; done)); have q2_0 := hf.get (b := w.heap.size + 1) (o := 0) (v := .int .i64 W) (by first | (simp [go_sem]; done) | (simp [go_sem, *]; done)); have q2_1 := hf.get (b := w.heap.size + 1) (o := 1) (v := .int .u64 (hi u)) (by first | (simp [go_sem]; done) | (simp [go_sem, *]; done)); have q2_2 := hf.get (b := w.heap.size + 1) (o := 2) (v := .int .u64 (lo u)) (by first | (simp [go_sem]; done) | (simp [go_sem, *]; done)); have za2 := lt_of_cell p2_0; have zb2 := lt_of_cell q2_0; have d2_0 := fun h => hf.get (b := wr.heap.size) (o := 0) (v := .int .i64 0) h; (try simp [go_sem, *] at d2_0); have e2_0 := fun h h2 => hf.free (b := wr.heap.size) (o := 0) (v := .int .i64 0) h h2; (try simp [go_sem, *] at e2_0); have d2_1 := fun h => hf.get (b := wr.heap.size) (o := 1) (v := .int .u64 0) h; (try simp [go_sem, *] at d2_1); have e2_1 := fun h h2 => hf.free (b := wr.heap.size) (o := 1) (v := .int .u64 0) h h2; (try simp [go_sem, *] at e2_1); have d2_2 := fun h => hf.get (b := wr.heap.size) (o := 2) (v := .int .u64 0) h; (try simp [go_sem, *] at d2_2); have e2_2 := fun h h2 => hf.free (b := wr.heap.size) (o := 2) (v := .int .u64 0) h h2; (try simp [go_sem, *] at e2_2); have d2_3 := fun h => hf.get (b := wr.heap.size) (o := 0) (v := .int .i64 W) h; (try simp [go_sem, *] at d2_3); have e2_3 := fun h h2 => hf.free (b := wr.heap.size) (o := 0) (v := .int .i64 W) h h2; (try simp [go_sem, *] at e2_3); have d2_4 := fun h => hf.get (b := wr.heap.size) (o := 1) (v := .int .u64 (hi C)) h; (try simp [go_sem, *] at d2_4); have e2_4 := fun h h2 => hf.free (b := wr.heap.size) (o := 1) (v := .int .u64 (hi C)) h h2; (try simp [go_sem, *] at e2_4); have d2_5 := fun h => hf.get (b := wr.heap.size) (o := 2) (v := .int .u64 (lo C)) h; (try simp [go_sem, *] at d2_5); have e2_5 := fun h h2 => hf.free (b := wr.heap.size) (o := 2) (v := .int .u64 (lo C)) h h2; (try simp [go_sem, *] at e2_5); have l2_6 := fun h => lt_of_cell (hf.get (b := wr.heap.size) (o := 0) (v := .int .i64 0) h); (try simp [go_sem, *] at l2_6); have d2_6 := fun h => hf.get (b := wr.heap.size + 1) (o := 0) (v := .int .i64 0) h; (try simp [go_sem, *] at d2_6); have e2_6 := fun h h2 => hf.free (b := wr.heap.size + 1) (o := 0) (v := .int .i64 0) h h2; (try simp [go_sem, *] at e2_6); have d2_7 := fun h => hf.get (b := wr.heap.size + 1) (o := 1) (v := .int .u64 0) h; (try simp [go_sem, *] at d2_7); have e2_7 := fun h h2 => hf.free (b := wr.heap.size + 1) (o := 1) (v := .int .u64 0) h h2; (try simp [go_sem, *] at e2_7); have d2_8 := fun h => hf.get (b := wr.heap.size + 1) (o := 2) (v := .int .u64 0) h; (try simp [go_sem, *] at d2_8); have e2_8 := fun h h2 => hf.free (b := wr.heap.size + 1) (o := 2) (v := .int .u64 0) h h2; (try simp [go_sem, *] at e2_8); have d2_9 := fun h => hf.get (b := wr.heap.size + 1) (o := 0) (v := .int .i64 W) h; (try simp [go_sem, *] at d2_9); have e2_9 := fun h h2 => hf.free (b := wr.heap.size + 1) (o := 0) (v := .int .i64 W) h h2; (try simp [go_sem, *] at e2_9); have d2_10 := fun h => hf.get (b := wr.heap.size + 1) (o := 1) (v := .int .u64 (hi C)) h; (try simp [go_sem, *] at d2_10); have e2_10 := fun h h2 => hf.free (b := wr.heap.size + 1) (o := 1) (v := .int .u64 (hi C)) h h2; (try simp [go_sem, *] at e2_10); have d2_11 := fun h => hf.get (b := wr.heap.size + 1) (o := 2) (v := .int .u64 (lo C)) h; (try simp [go_sem, *] at d2_11); have e2_11 := fun h h2 => hf.free (b := wr.heap.size + 1) (o := 2) (v := .int .u64 (lo C)) h h2; (try simp [go_sem, *] at e2_11); have l2_12 := fun h => lt_of_cell (hf.get (b := wr.heap.size + 1) (o := 0) (v := .int .i64 0) h); (try simp [go_sem, *] at l2_12); have d2_12 := fun h => hf.get (b := x1.heap.size) (o := 0) (v := .int .i64 0) h; (try simp [go_sem, *] at d2_12); have e2_12 := fun h h2 => hf.free (b := x1.heap.size) (o := 0) (v := .int .i64 0) h h2; (try simp [go_sem, *] at e2_12); have d2_13 := fun h => hf.get (b := x1.heap.size) (o := 1) (v := .int .u64 0) h; (try simp [go_sem, *] at d2_13); have e2_13 := fun h h2 => hf.free (b := x1.heap.size) (o := 1) (v := .int .u64 0) h h2; (try simp [go_sem, *] at e2_13); have d2_14 := fun h => hf.get (b := x1.heap.size) (o := 2) (v := .int .u64 0) h; (try simp [go_sem, *] at d2_14); have e2_14 := fun h h2 => hf.free (b := x1.heap.size) (o := 2) (v := .int .u64 0) h h2; (try simp [go_sem, *] at e2_14); have d2_15 := fun h => hf.get (b := x1.heap.size) (o := 0) (v := .int .i64 W) h; (try simp [go_sem, *] at d2_15); have e2_15 := fun h h2 => hf.free (b := x1.heap.size) (o := 0) (v := .int .i64 W) h h2; (try simp [go_sem, *] at e2_15); have d2_16 := fun h => hf.get (b := x1.heap.size) (o := 1) (v := .int .u64 (hi C)) h; (try simp [go_sem, *] at d2_16); have e2_16 := fun h h2 => hf.free (b := x1.heap.size) (o := 1) (v := .int .u64 (hi C)) h h2; (try simp [go_sem, *] at e2_16); have d2_17 := fun h => hf.get (b := x1.heap.size) (o := 2) (v := .int .u64 (lo C)) h; (try simp [go_sem, *] at d2_17); have e2_17 := fun h h2 => hf.free (b := x1.heap.size) (o := 2) (v := .int .u64 (lo C)) h h2; (try simp [go_sem, *] at e2_17); have l2_18 := fun h => lt_of_cell (hf.get (b := x1.heap.size) (o := 0) (v := .int .i64 0) h); (try simp [go_sem, *] at l2_18); have d2_18 := fun h => hf.get (b := x1.heap.size + 1) (o := 0) (v := .int .i64 0) h; (try simp [go_sem, *] at d2_18); have e2_18 := fun h h2 => hf.free (b := x1.heap.size + 1) (o := 0) (v := .int .i64 0) h h2; (try simp [go_sem, *] at e2_18); have d2_19 := fun h => hf.get (b := x1.heap.size + 1) (o := 1) (v := .int .u64 0) h; (try simp [go_sem, *] at d2_19); have e2_19 := fun h h2 => hf.free (b := x1.heap.size + 1) (o := 1) (v := .int .u64 0) h h2; (try simp [go_sem, *] at e2_19); have d2_20 := fun h => hf.get (b := x1.heap.size + 1) (o := 2) (v := .int .u64 0) h; (try simp [go_sem, *] at d2_20); have e2_20 := fun h h2 => hf.free (b := x1.heap.size + 1) (o := 2) (v := .int .u64 0) h h2; (try simp [go_sem, *] at e2_20); have d2_21 := fun h => hf.get (b := x1.heap.size + 1) (o := 0) (v := .int .i64 W) h; (try simp [go_sem, *] at d2_21); have e2_21 := fun h h2 => hf.free (b := x1.heap.size + 1) (o := 0) (v := .int .i64 W) h h2; (try simp [go_sem, *] at e2_21); have d2_22 := fun h => hf.get (b := x1.heap.size + 1) (o := 1) (v := .int .u64 (hi C)) h; (try simp [go_sem, *] at d2_22); have e2_22 := fun h h2 => hf.free (b := x1.heap.size + 1) (o := 1) (v := .int .u64 (hi C)) h h2; (try simp [go_sem, *] at e2_22); have d2_23 := fun h => hf.get (b := x1.heap.size + 1) (o := 2) (v := .int .u64 (lo C)) h; (try simp [go_sem, *] at d2_23); have e2_23 := fun h h2 => hf.free (b := x1.heap.size + 1) (o := 2) (v := .int .u64 (lo C)) h h2; (try simp [go_sem, *] at e2_23); have l2_24 := fun h => lt_of_cell (hf.get (b := x1.heap.size + 1) (o := 0) (v := .int .i64 0) h); (try simp [go_sem, *] at l2_24); clear hf))
        all_goals
          go_wp2_with fail
          go_meet
          refine ⟨_, _, rfl, rfl, ⟨?_, ?_, ?_⟩, ⟨?_, ?_, ?_⟩, ?_⟩
          all_goals first | (simp [go_sem, *]; done) | (simp; omega) | ((repeat (first | with_reducible exact HR.out | with_reducible apply Fr.drewN | with_reducible apply Fr.drew | with_reducible apply Fr.alloc | (with_reducible refine Fr.set ?_ (by simp; try omega) _) | (with_reducible refine Fr.call ?_ HX2.out) | (with_reducible refine Fr.call ?_ HX1.out))); done)
      case rest =>
        obtain ⟨p, p', rfl, rfl, hp, hq, hfc⟩ := hcut
        have HC := Lib.hid hfc
        have HP := Lib.hid hp
        have HQ := Lib.hid hq
        obtain ⟨a3, a4, a5⟩ := (BA0.out.fr hfc).three
        obtain ⟨c3, c4, c5⟩ := (BB0.out.fr hfc).three
        clear hp hq hfc
        rcases hz with ⟨z1, z2⟩ | z1
        all_goals
          go_wp2_with fail
          have y0 := fun ex : Ext wc => ex.get a3
          have y1 := fun ex : Ext wc => ex.get a4
          have y2 := fun ex : Ext wc => ex.get a5
          have y3 := fun ex : Ext wc => ex.get c3
          have y4 := fun ex : Ext wc => ex.get c4
          have y5 := fun ex : Ext wc => ex.get c5
          have y6 := fun ex : Ext wc => ex.get HP.out.1
          have y7 := fun ex : Ext wc => ex.get HP.out.2.1
          have y8 := fun ex : Ext wc => ex.get HP.out.2.2
          have y9 := fun ex : Ext wc => ex.get HQ.out.1
          have yA := fun ex : Ext wc => ex.get HQ.out.2.1
          have yB := fun ex : Ext wc => ex.get HQ.out.2.2
          refine wp_region_ext (by kernel_rfl) (by kernel_rfl) ?_
          repeat (go_big_quiet_step (first
            | (go_at_call_of 9 (Value.int IntKind.i64 3); exact ext_of (HM2.out _))
            | (go_at_call_of 9 (Value.int IntKind.i64 1); exact ext_of (HA2.out _))))
          refine wpQuiet_nil ?_
          intro w5 hw5
          obtain ⟨y5', rfl⟩ := hw5
          have HF := Lib.hid (HC.out.call y5'.fr)
          go_wp2
          go_roundw
          case rel => exact ⟨.inr (.inr rfl), HF.out⟩
          case measure => simp [intOf]
    · have HR := Lib.hid hfr
      obtain ⟨a0, a1, a2⟩ := (BA0.out.fr hfr).three
      obtain ⟨c0, c1, c2⟩ := (BB0.out.fr hfr).three
      have y0 := fun ex : Ext wr => ex.get a0
      have y1 := fun ex : Ext wr => ex.get a1
      have y2 := fun ex : Ext wr => ex.get a2
      have y3 := fun ex : Ext wr => ex.get c0
      have y4 := fun ex : Ext wr => ex.get c1
      have y5 := fun ex : Ext wr => ex.get c2
      clear hfr
      rcases hz with ⟨z1, z2⟩ | z1
      all_goals
        go_wp2_with fail
        refine wp_region_ext (by kernel_rfl) (by kernel_rfl) ?_
        repeat (go_big_quiet_step (first
          | (go_at_call_of 9 (Value.int IntKind.i64 11); exact ext_of (H11.out _))
          | (go_at_call_of 9 (Value.int IntKind.i64 15); exact ext_of (HL.out _))))
        refine wpQuiet_nil ?_
        intro w5 hw5
        obtain ⟨y5', rfl⟩ := hw5
        have HF := Lib.hid ((HFW.out.call HR.out).call y5'.fr)
        go_wp2
        go_ret
        exact ⟨ret_bool (by simp [*]), HF.out⟩
end Go.Proofs.Ytfnoocpopfapmaa
