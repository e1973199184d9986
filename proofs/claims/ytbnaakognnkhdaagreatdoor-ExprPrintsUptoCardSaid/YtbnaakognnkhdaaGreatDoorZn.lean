/- Add answers what the document asks. -/
import Derived.Test.YtbnaakognnkhdaaGreatDoorZm
namespace Go.Proofs.YtbnaakognnkhdaaGreatDoor
open Go.RowKit
set_option linter.unusedSimpArgs false
set_option linter.unusedVariables false

theorem results_cell2 {P : Program} {fn : Func} {t s : Tmp} {ty : TypeId} (h : fn.results = #[.cell t ty, .tmp s]) (tmps : Array Value) {w : World} {p : Addr} {v u : Value} (hp : tmps.getD t undef = .pointer (some p)) (hs : tmps.getD s undef = u) (hl : (loadVar ty p).run P w = .ok v w) : (results fn tmps).run P w = .ok (.tuple #[v, u]) w := by
  rw [Array.getD_eq_getD_getElem?] at hp hs
  simp [results, h, hp, hs, asAddr, hl]
set_option maxHeartbeats 3200000 in
set_option maxRecDepth 100000 in
theorem add_bad (a b : Ln) (F : Nat → Prop) (u v : Value) (w : World) (ha : a.Sm) (hb : b.Sm) (hu : a.At F w u) (hv : b.At F w v) (hn : ¬ (a.norm = true ∧ b.norm = true)) :
    Calls Tryz.prog 8 #[u, v] w fun e w' => ∃ x, e = .returned (.tuple #[x, .int .i64 121]) ∧ zeroL.At (Also F w w') w' x ∧ Fr w w' := by
  obtain ⟨A, B, c, d, rfl, _, _, _, _⟩ := id hu
  obtain ⟨A', B', c', d', rfl, _, _, _, _⟩ := id hv
  have HN := Lib.hid (fun W (k : Fr w W) => isNormal_at ha (hu.fr k))
  have HN2 := Lib.hid (fun W (k : Fr w W) => isNormal_at hb (hv.fr k))
  clear hu hv
  cases hna : a.norm with
  | false =>
    rw [hna] at HN
    go_enter Tryz.func8, Tryz.ntmps8
    go_wp2_with (first
      | (go_at_call 18; refine (HN.out _ ((((Fr.refl w).alloc _).alloc _).alloc _)).mono ?_; rintro e w1 ⟨rfl, hf1⟩; have HB := Lib.hid ((B3.new (by simp)).fr hf1 : B3 w1 (w.heap.size + 2) (.slice none 0 0) (.slice none 0 0) (.int .i64 0)); obtain ⟨c0, c1, c2, f0, f1, f2⟩ := HB.out)
      | fail)
    obtain ⟨w5, hw5, hl5, hr5, hf5⟩ := res_put (a := zeroL) (F := F) (G := fun _ => False) (A := none) (B := none) (n := 0) (m := 0) (c := 0) (d := 0) (show w.heap.size ≤ w.heap.size + 2 by omega) (((((Fr.refl w).alloc _).alloc _).alloc _).call hf1) HB.out (zero_at _ _) (fun g h => h.elim)
    simp only [zeroL] at hw5 hl5
    rw [← hw5]
    exact bodyPost_ret (v := .tuple #[.agg #[.slice none 0 0, .slice none 0 0, .int .i64 0], .int .i64 121]) (results_cell2 Tryz.results8 _ rfl rfl hl5) rfl ⟨_, rfl, hr5, hf5⟩
  | true =>
    have hnb : b.norm = false := by
      cases h : b.norm with
      | false => rfl
      | true => exact absurd ⟨hna, h⟩ hn
    rw [hna] at HN
    rw [hnb] at HN2
    go_enter Tryz.func8, Tryz.ntmps8
    go_wp2_with fail
    refine (HN.out _ ((((Fr.refl w).alloc _).alloc _).alloc _)).mono ?_
    rintro e w1 ⟨rfl, hf1⟩
    have HA2 := Lib.hid ((((B3.new (by simp)).fr ((Fr.refl _).alloc _))).fr hf1 : B3 w1 (w.heap.size + 1) (.slice A' b.ss.length c') (.slice B' b.ts.length d') (.int .i64 b.off))
    have HB := Lib.hid ((B3.new (by simp)).fr hf1 : B3 w1 (w.heap.size + 2) (.slice none 0 0) (.slice none 0 0) (.int .i64 0))
    obtain ⟨c0, c1, c2, f0, f1, f2⟩ := HA2.out
    have z1 := HA2.out.lt
    go_wp2_with fail
    refine (HN2.out _ (((((Fr.refl w).alloc _).alloc _).alloc _).call hf1)).mono ?_
    rintro e w2 ⟨rfl, hf2⟩
    clear c0 c1 c2 f0 f1 f2
    have HB2 := Lib.hid (HB.out.fr hf2)
    obtain ⟨c0, c1, c2, f0, f1, f2⟩ := HB2.out
    go_wp2_with fail
    obtain ⟨w5, hw5, hl5, hr5, hf5⟩ := res_put (a := zeroL) (F := F) (G := fun _ => False) (A := none) (B := none) (n := 0) (m := 0) (c := 0) (d := 0) (show w.heap.size ≤ w.heap.size + 2 by omega) ((((((Fr.refl w).alloc _).alloc _).alloc _).call hf1).call hf2) HB2.out (zero_at _ _) (fun g h => h.elim)
    simp only [zeroL] at hw5 hl5
    rw [← hw5]
    exact bodyPost_ret (v := .tuple #[.agg #[.slice none 0 0, .slice none 0 0, .int .i64 0], .int .i64 121]) (results_cell2 Tryz.results8 _ rfl rfl hl5) rfl ⟨_, rfl, hr5, hf5⟩
set_option maxHeartbeats 6400000 in
set_option maxRecDepth 100000 in
theorem add_good (a b : Ln) (F : Nat → Prop) (u v : Value) (w : World) (ha : a.Sm) (hb : b.Sm) (hu : a.At F w u) (hv : b.At F w v) (hna : a.norm = true) (hnb : b.norm = true) :
    Calls Tryz.prog 8 #[u, v] w fun e w' => ∃ x, e = .returned (.tuple #[x, .int .i64 (addL a b).2]) ∧ (addL a b).1.At (Also F w w') w' x ∧ Fr w w' := by
  obtain ⟨A, B, c, d, rfl, _, _, _, _⟩ := id hu
  obtain ⟨A', B', c', d', rfl, _, _, _, _⟩ := id hv
  have HN := Lib.hid (fun W (k : Fr w W) => isNormal_at ha (hu.fr k))
  have HN2 := Lib.hid (fun W (k : Fr w W) => isNormal_at hb (hv.fr k))
  have HS := Lib.hid (fun W (k : Fr w W) => sumOf_at ha hna (hu.fr k))
  have HS2 := Lib.hid (fun W (k : Fr w W) => sumOf_at hb hnb (hv.fr k))
  rw [hna] at HN
  rw [hnb] at HN2
  have hPa := norm_asc hna
  have hPi := norm_mem ha
  have hPb := norm_asc hnb
  have hPj := norm_mem hb
  have hl1 : a.P.length ≤ 16 := by have := norm_len hna; have := norm_plen hna; omega
  have hl2 : b.P.length ≤ 16 := by have := norm_len hnb; have := norm_plen hnb; omega
  have hQs := merge_sm (k := 1) _ a.P b.P (Nat.le_refl _) hPi hPj
  have hQa : ascP (mergeP 1 a.P b.P) := merge_asc _ a.P b.P (Nat.le_refl _) hPa hPb
  have hQl : (mergeP 1 a.P b.P).length ≤ 100000 := by have := hQs.1; omega
  have HT := Lib.hid (show addL a b = if (mergeP 1 a.P b.P).length ≤ 16 then (ofP (mergeP 1 a.P b.P) (add64 a.off b.off), 0) else (zeroL, 123) by
    unfold addL
    rw [if_pos ⟨hna, hnb⟩]
    have e1 : plusL a b 1 = ofP (mergeP 1 a.P b.P) (add64 a.off b.off) := by
      unfold plusL
      have : mul64 1 b.off = b.off := by unfold mul64; rw [Int.one_mul, wrap_id hb.2.2]
      rw [this]
    rw [e1]
    have e2 : (ofP (mergeP 1 a.P b.P) (add64 a.off b.off)).ss.length = (mergeP 1 a.P b.P).length := by simp [ofP, fsts]
    rw [e2])
  clear hu hv
  obtain ⟨Q, hQ⟩ : ∃ Q, mergeP 1 a.P b.P = Q := ⟨_, rfl⟩
  rw [hQ] at hQa hQl hQs HT
  go_enter Tryz.func8, Tryz.ntmps8
  go_wp2_with fail
  refine (HN.out _ ((((Fr.refl w).alloc _).alloc _).alloc _)).mono ?_
  rintro e w1 ⟨rfl, hf1⟩
  have HA := Lib.hid ((((B3.new rfl).fr ((Fr.refl _).alloc _)).fr ((Fr.refl _).alloc _)).fr hf1 : B3 w1 w.heap.size (.slice A a.ss.length c) (.slice B a.ts.length d) (.int .i64 a.off))
  have HA2 := Lib.hid ((((B3.new (by simp)).fr ((Fr.refl _).alloc _))).fr hf1 : B3 w1 (w.heap.size + 1) (.slice A' b.ss.length c') (.slice B' b.ts.length d') (.int .i64 b.off))
  have HB := Lib.hid ((B3.new (by simp)).fr hf1 : B3 w1 (w.heap.size + 2) (.slice none 0 0) (.slice none 0 0) (.int .i64 0))
  have HF := Lib.hid (((((Fr.refl w).alloc _).alloc _).alloc _).call hf1)
  obtain ⟨c0, c1, c2, f0, f1, f2⟩ := HA2.out
  have z1 := HA2.out.lt
  clear hf1
  go_wp2_with fail
  refine (HN2.out _ HF.out).mono ?_
  rintro e w2 ⟨rfl, hf2⟩
  clear c0 c1 c2 f0 f1 f2 z1
  replace HA := Lib.hid (HA.out.fr hf2)
  replace HA2 := Lib.hid (HA2.out.fr hf2)
  replace HB := Lib.hid (HB.out.fr hf2)
  replace HF := Lib.hid (HF.out.call hf2)
  clear hf2
  obtain ⟨c0, c1, c2, f0, f1, f2⟩ := HA.out
  have z1 := HA.out.lt
  go_wp2_with fail
  refine (HS.out _ HF.out).mono ?_
  rintro e w3 ⟨x1, rfl, ⟨mb, rfl, hm, hnew⟩, hf3⟩
  clear c0 c1 c2 f0 f1 f2 z1
  obtain ⟨q, hq⟩ : ∃ q, w3.heap.size = q := ⟨_, rfl⟩
  obtain ⟨W, hW⟩ : ∃ W, W = w3.alloc (.cells #[.map mb, .int .i64 a.off] 46) := ⟨_, rfl⟩
  have hf3' : Fr w2 W := by rw [hW]; exact hf3.alloc _
  have HMb := Lib.hid (show ∀ g, mb = some g → w.heap.size + 2 < g ∧ g < q from fun g e => by
    have h1 := hnew g e
    have h2 := HB.out.lt
    subst e
    have h3 := hm.lt
    omega)
  have HSq := Lib.hid (show SAt (fun g => g = q ∨ mb = some g) W q mb a.P a.off W from
    ⟨by rw [hW]; exact hm.fr ((Fr.refl _).alloc _), by rw [hW, ← hq]; simp [go_sem], by rw [hW, ← hq]; simp [go_sem], by rw [hW, ← hq]; simp [go_sem], by rw [hW, ← hq]; simp [go_sem], fun b e => .inl (.inr e), .inl (.inl rfl), Kp.refl _ _⟩)
  have HQz := Lib.hid (show q < W.heap.size ∧ w.heap.size + 2 < q by have := HB.out.lt; have := hf3.size; exact ⟨by rw [hW]; simp; omega, by omega⟩)
  obtain ⟨c0, c1, c2, f0, f1, f2⟩ := HA2.out.fr hf3
  have z1 : w.heap.size + 1 < q := by have := lt_of_cell c0; omega
  replace HB := Lib.hid (HB.out.fr hf3')
  replace HF := Lib.hid (HF.out.call hf3')
  clear hf3 hf3' hm hnew HA HA2
  go_wp2_with fail
  rw [← hW]
  refine (HS2.out _ HF.out).mono ?_
  rintro e w4 ⟨x2, rfl, ⟨mb2, rfl, hm2, hnew2⟩, hf4⟩
  clear c0 c1 c2 f0 f1 f2 z1 hW
  have HS4 := Lib.hid (show SAt (fun g => g = q ∨ mb = some g) w4 q mb a.P a.off w4 from by
    have h := HSq.out.fr hf4
    exact ⟨h.map, h.c0, h.c1, h.f0, h.f1, fun b e => .inl (.inr e), .inl (.inl rfl), Kp.refl _ _⟩)
  have HAD := Lib.hid (add_any a.P b.P a.off b.off q mb mb2 w4 hPa hPi hPb hPj (by omega) HS4.out hm2 (fun g e1 e2 => by have h1 := hnew2 g e1; have h2 := (HMb.out g e2).2; have h3 := HQz.out.1; omega))
  rw [hQ] at HAD
  replace HB := Lib.hid (HB.out.fr hf4)
  replace HF := Lib.hid (HF.out.call hf4)
  clear hf4 hm2 hnew2
  go_wp2_with fail
  refine HAD.out.mono ?_
  rintro e w5 ⟨⟨v0, rfl⟩, mb5, hs5⟩
  have HS5 := Lib.hid hs5
  replace HB := Lib.hid (HB.out.kp hs5.kp (by rintro (h | h) <;> first | (have := HQz.out.2; omega) | (have := (HMb.out _ h).1; omega)))
  replace HF := Lib.hid ((((Kp.of (S := fun g => g = q ∨ mb = some g) HF.out).call hs5.kp).to (by rintro x (h | h) <;> first | (have := HQz.out.2; omega) | (have := (HMb.out _ h).1; omega))))
  have c0 := hs5.c0
  have c1 := hs5.c1
  have zq := lt_of_cell c0
  clear hs5
  by_cases h16 : 16 < Q.length
  · have HTM := Lib.hid (fun W (k : Fr w5 W) => tooMany_any Q (add64 a.off b.off) mb5 W (HS5.out.map.fr k))
    rw [decide_eq_true h16] at HTM
    go_wp2_with fail
    refine (HTM.out _ (Fr.refl _)).mono ?_
    rintro e w6 ⟨rfl, hf6⟩
    clear c0 c1 zq
    replace HB := Lib.hid (HB.out.fr hf6)
    replace HF := Lib.hid (HF.out.call hf6)
    obtain ⟨c0, c1, c2, f0, f1, f2⟩ := HB.out
    go_wp2_with fail
    obtain ⟨w7, hw7, hl7, hr7, hf7⟩ := res_put (a := zeroL) (F := F) (G := fun _ => False) (A := none) (B := none) (n := 0) (m := 0) (c := 0) (d := 0) (show w.heap.size ≤ w.heap.size + 2 by omega) HF.out HB.out (zero_at _ _) (fun g h => h.elim)
    simp only [zeroL] at hw7 hl7
    rw [← hw7]
    refine bodyPost_ret (v := .tuple #[.agg #[.slice none 0 0, .slice none 0 0, .int .i64 0], .int .i64 123]) (results_cell2 Tryz.results8 _ rfl rfl hl7) rfl ⟨.agg #[.slice none 0 0, .slice none 0 0, .int .i64 0], ?_, ?_, hf7⟩
    · rw [HT.out, if_neg (by omega)]
    · rw [HT.out, if_neg (by omega)]; exact hr7
  · have HTM := Lib.hid (fun W (k : Fr w5 W) => tooMany_any Q (add64 a.off b.off) mb5 W (HS5.out.map.fr k))
    rw [decide_eq_false h16] at HTM
    go_wp2_with fail
    refine (HTM.out _ (Fr.refl _)).mono ?_
    rintro e w6 ⟨rfl, hf6⟩
    clear c0 c1 zq
    replace HB := Lib.hid (HB.out.fr hf6)
    replace HF := Lib.hid (HF.out.call hf6)
    replace HS5 := Lib.hid (HS5.out.fr hf6)
    have c0 := HS5.out.c0
    have c1 := HS5.out.c1
    have zq := lt_of_cell c0
    go_wp2_with fail
    refine (lin_any Q (add64 a.off b.off) mb5 w6 hQa hQl hQs.2 HS5.out.map).mono ?_
    rintro e w7 ⟨v, rfl, hx, hf7⟩
    obtain ⟨A5, B5, c5, d5, rfl, hx5⟩ := id hx
    clear c0 c1 zq
    have hlt := HB.out.lt
    replace HB := Lib.hid (HB.out.fr hf7)
    have h67 := HF.out.size
    replace HF := Lib.hid (HF.out.call hf7)
    obtain ⟨c0, c1, c2, f0, f1, f2⟩ := HB.out
    go_wp2_with fail
    obtain ⟨w8, hw8, hl8, hr8, hf8⟩ := res_put (a := ofP Q (add64 a.off b.off)) (F := F) (G := New w6 w7) (show w.heap.size ≤ w.heap.size + 2 by omega) HF.out HB.out hx (fun g h => by
      have h1 := h.1
      exact ⟨by omega, .inr ⟨by omega, h.2⟩⟩)
    have hoff : (ofP Q (add64 a.off b.off)).off = add64 a.off b.off := rfl
    rw [hoff] at hw8 hl8 hr8
    rw [← hw8]
    refine bodyPost_ret (v := .tuple #[.agg #[.slice A5 (fsts Q).length c5, .slice B5 (snds Q).length d5, .int .i64 (add64 a.off b.off)], .int .i64 0]) (results_cell2 Tryz.results8 _ rfl rfl hl8) rfl ⟨.agg #[.slice A5 (fsts Q).length c5, .slice B5 (snds Q).length d5, .int .i64 (add64 a.off b.off)], ?_, ?_, hf8⟩
    · rw [HT.out, if_pos (by omega)]
    · rw [HT.out, if_pos (by omega)]; exact hr8
theorem add_c : AddC := by
  intro a b F u v w ha hb hu hv
  by_cases hn : a.norm = true ∧ b.norm = true
  · exact add_good a b F u v w ha hb hu hv hn.1 hn.2
  · have e : addL a b = (zeroL, 121) := by unfold addL; rw [if_neg hn]
    rw [e]
    exact add_bad a b F u v w ha hb hu hv hn
end Go.Proofs.YtbnaakognnkhdaaGreatDoor
