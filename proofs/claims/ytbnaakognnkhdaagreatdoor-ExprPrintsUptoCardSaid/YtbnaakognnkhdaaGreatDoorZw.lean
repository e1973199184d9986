/- The reader: the whole text. -/
import Derived.Test.YtbnaakognnkhdaaGreatDoorZv
namespace Go.Proofs.YtbnaakognnkhdaaGreatDoor
open Go.RowKit
set_option linter.unusedSimpArgs false
set_option linter.unusedVariables false

set_option maxHeartbeats 3200000 in
set_option maxRecDepth 100000 in
theorem sum_bad {w0 : World} {s : ByteArray} {pb d a wa : Nat} (hzp : w0.heap.size ≤ pb) (hs : s.size ≤ 140737488351232) (hf : RdsR 51 w0 s pb d a none wa) :
    RdsR 40 w0 s pb d a none wa := by
  intro w e b hz hp
  have z0 := hp.lt
  have HF := Lib.hid (hf (w.alloc (.cells #[.map none, .int .i64 0] 46)) e b (hz.alloc _) (hp.fr ((Fr.refl w).alloc _)))
  clear hf hp
  go_enter Tryz.func40, Tryz.ntmps40
  go_wp2_with fail
  refine HF.out.mono ?_
  rintro en w1 ⟨v, a', P, n, rfl, ⟨mb, rfl, hm, hnew⟩, hp1, hk1⟩
  obtain ⟨q, hq⟩ : ∃ q, w1.heap.size = q := ⟨_, rfl⟩
  obtain ⟨W, hW⟩ : ∃ W, W = w1.alloc (.cells #[.map mb, .int .i64 n] 46) := ⟨_, rfl⟩
  have hkA : Fr w1 W := by rw [hW]; exact (Fr.refl w1).alloc _
  have HB1 := Lib.hid (((B2.new rfl).kp hk1 (show ¬ w.heap.size = pb by omega)).fr hkA : B2 W w.heap.size (.map none) (.int .i64 0))
  have HQ1 := Lib.hid (show B2 W q (.map mb) (.int .i64 n) by rw [hW]; exact B2.new hq.symm)
  have HK1 := Lib.hid (show Kp (fun g => g = pb) w W from (((Kp.refl (fun g => g = pb) w).alloc _).call hk1).fr hkA)
  have HP1 := Lib.hid (hp1.fr hkA)
  have HM1 := Lib.hid (hm.fr hkA)
  have HN1 := Lib.hid (show ∀ b, mb = some b → w.heap.size < b from fun b e => by have h1 := hnew b e; simp at h1; omega)
  have HZq := Lib.hid (show w.heap.size < q by have := hk1.size; simp at this; omega)
  clear hp1 hk1 hm hnew hkA
  go_wp2_with fail
  rw [← hW]
  obtain ⟨u0, u1, _, _⟩ := HQ1.out
  obtain ⟨r0, r1, q0, q1⟩ := HB1.out
  have z1 := HQ1.out.lt
  have z2 := HB1.out.lt
  clear hW
  refine wp_loop_rounds 1 ?_
  rw [rounds_succ]
  go_wp2
  obtain ⟨w5, hw5, hl5, hv5, hf5⟩ := sum_put (w := w) (off := n) HB1.out HM1.out (fun b e => Nat.le_of_lt (HN1.out b e)) (fun b e => by have := HN1.out b e; omega)
  rw [← hw5]
  exact bodyPost_ret (v := .tuple #[.agg #[.map mb, .int .i64 n], .bool false]) (results_cell2 Tryz.results40 _ rfl rfl hl5) rfl ⟨_, a', P, n, rfl, hv5, HP1.out.kp hf5 (show ¬ pb = w.heap.size by omega), HK1.out.trans hf5 (fun x hx e => by omega)⟩
set_option maxHeartbeats 3200000 in
set_option maxRecDepth 100000 in
theorem whole_ok {w0 : World} {s : ByteArray} {pb b' : Nat} {r : Sm2} (hzp : w0.heap.size ≤ pb) (hs : s.size ≤ 140737488351232) (hb : b' ≤ s.size) (he : skipN s b' = s.size) (hr : Rds 40 w0 s pb 0 0 r b') (w : World) (hz : Fr w0 w) (hp : PAt w pb s 0 0 0) :
    Calls Tryz.prog 26 #[.pointer (some ⟨pb, 0, none⟩)] w fun en w' => ∃ v, en = .returned (.tuple #[v, .bool true]) ∧ SumV w w' v r.1 r.2 ∧ Kp (fun g => g = pb) w w' := by
  have z0 := hp.lt
  have HF := Lib.hid (hr (w.alloc (.cells #[.map none, .int .i64 0] 46)) 0 0 (hz.alloc _) (hp.fr ((Fr.refl w).alloc _)))
  have HXX := Lib.hid (fun W (h : PAt W pb s (b' : Int) 0 0) => next_any s b' 0 0 pb W (by omega) hb h)
  rw [he] at HXX
  obtain ⟨ch, hch⟩ : ∃ ch : Int, (peekN s s.size : Int) = ch := ⟨_, rfl⟩
  rw [hch] at HXX
  clear hr hp hch
  go_enter Tryz.func26, Tryz.ntmps26
  go_wp2_with fail
  refine HF.out.mono ?_
  rintro en w1 ⟨v, rfl, ⟨mb, rfl, hm, hnew⟩, hp1, hk1⟩
  obtain ⟨q, hq⟩ : ∃ q, w1.heap.size = q := ⟨_, rfl⟩
  obtain ⟨W, hW⟩ : ∃ W, W = w1.alloc (.cells #[.map mb, .int .i64 r.2] 46) := ⟨_, rfl⟩
  have hkA : Fr w1 W := by rw [hW]; exact (Fr.refl w1).alloc _
  have HB1 := Lib.hid (((B2.new rfl).kp hk1 (show ¬ w.heap.size = pb by omega)).fr hkA : B2 W w.heap.size (.map none) (.int .i64 0))
  have HQ1 := Lib.hid (show B2 W q (.map mb) (.int .i64 r.2) by rw [hW]; exact B2.new hq.symm)
  have HK1 := Lib.hid (show Kp (fun g => g = pb) w W from (((Kp.refl (fun g => g = pb) w).alloc _).call hk1).fr hkA)
  have HP1 := Lib.hid (hp1.fr hkA)
  have HM1 := Lib.hid (hm.fr hkA)
  have HN1 := Lib.hid (show (∀ b, mb = some b → w.heap.size < b) ∧ w.heap.size < q ∧ pb < q from ⟨fun b e => by have h1 := hnew b e; simp at h1; omega, by have := hk1.size; simp at this; omega, by have := hp1.lt; omega⟩)
  clear hp1 hk1 hm hnew hkA
  go_wp2_with fail
  rw [← hW]
  refine (HXX.out W HP1.out).mono ?_
  rintro en w2 ⟨rfl, hp2, hk2⟩
  have HB2 := Lib.hid (HB1.out.kp hk2 (show ¬ w.heap.size = pb by omega))
  have HQ2 := Lib.hid (HQ1.out.kp hk2 (show ¬ q = pb by have := HN1.out.2.2; omega))
  have HM2 := Lib.hid (HM1.out.kp hk2 (fun b e h => by subst e h; exact map_no_cell HM1.out HP1.out.c0))
  have HK2 := Lib.hid (HK1.out.call hk2)
  obtain ⟨c0, c1, c2, c3, f1, f2, f3⟩ := id hp2
  obtain ⟨u0, u1, _, _⟩ := HQ2.out
  obtain ⟨r0, r1, q0, q1⟩ := HB2.out
  have z1 := hp2.lt
  have z2 := HQ2.out.lt
  have z3 := HB2.out.lt
  have hlf : decide ((s.size : Int) < (s.size : Int)) = false := by simp
  clear hp2 hk2 hW
  go_wp2_with fail
  go_quiet (fail)
  go_wp2
  have HB3 := Lib.hid (HB2.out.fr (Fr.drewN (Fr.refl _) nq))
  have HM3 := Lib.hid (HM2.out.fr (Fr.drewN (Fr.refl _) nq))
  obtain ⟨w5, hw5, hl5, hv5, hf5⟩ := sum_put (w := w) (off := r.2) HB3.out HM3.out (fun b e => by have := HN1.out.1 b e; omega) (fun b e => by have := HN1.out.1 b e; omega)
  rw [← hw5]
  exact bodyPost_ret (v := .tuple #[.agg #[.map mb, .int .i64 r.2], .bool true]) (results_cell2 Tryz.results26 _ rfl rfl hl5) rfl ⟨_, rfl, hv5, (HK2.out.fr (Fr.drewN (Fr.refl _) nq)).trans hf5 (fun x hx e => by omega)⟩
set_option maxHeartbeats 3200000 in
set_option maxRecDepth 100000 in
theorem whole_bad {w0 : World} {s : ByteArray} {pb wa : Nat} (hzp : w0.heap.size ≤ pb) (hr : RdsR 40 w0 s pb 0 0 none wa) (w : World) (hz : Fr w0 w) (hp : PAt w pb s 0 0 0) :
    Calls Tryz.prog 26 #[.pointer (some ⟨pb, 0, none⟩)] w fun en w' => ∃ a', en = .returned (.tuple #[.agg #[.map none, .int .i64 0], .bool false]) ∧ PAt w' pb s a' 121 (wa : Int) ∧ Kp (fun g => g = pb) w w' := by
  have z0 := hp.lt
  have HF := Lib.hid (hr (w.alloc (.cells #[.map none, .int .i64 0] 46)) 0 0 (hz.alloc _) (hp.fr ((Fr.refl w).alloc _)))
  clear hr hp
  go_enter Tryz.func26, Tryz.ntmps26
  go_wp2_with fail
  refine HF.out.mono ?_
  rintro en w1 ⟨v, a', P, n, rfl, ⟨mb, rfl, hm, hnew⟩, hp1, hk1⟩
  have HK1 := Lib.hid (((Kp.refl (fun g => g = pb) w).alloc (.cells #[.map none, .int .i64 0] 46)).call hk1)
  have HP1 := Lib.hid hp1
  obtain ⟨r0, r1, q0, q1⟩ := (B2.new rfl).kp hk1 (show ¬ w.heap.size = pb by omega)
  have z3 := lt_of_cell r0
  have HKS := Lib.hid (((Kp.refl (fun g => g = w.heap.size) w1).set (p := ⟨w.heap.size, 0, none⟩) (.inl rfl) (.map none)).set (p := ⟨w.heap.size, 1, none⟩) (.inl rfl) (.int .i64 0))
  clear hp1 hk1 hm hnew
  go_wp2
  exact bodyPost_ret (v := .tuple #[.agg #[.map none, .int .i64 0], .bool false]) (results_cell2 Tryz.results26 _ rfl rfl (load_sum (by simp [go_sem, *]) (by simp [go_sem, *]))) rfl
    ⟨a', rfl, (HP1.out.kp HKS.out (show ¬ pb = w.heap.size by omega)).fr ((Fr.refl _).alloc _), (HK1.out.trans HKS.out (fun x hx e => by omega)).alloc _⟩
/-- The reader's block, new. -/
theorem PAt.new {w : World} {t : TypeId} {s : ByteArray} {g : Nat} (hg : g = w.heap.size) : PAt (w.alloc (.cells #[.string s, .int .i64 0, .int .i64 0, .int .i64 0] t)) g s 0 0 0 := by
  subst hg
  exact ⟨by simp [go_sem], by simp [go_sem], by simp [go_sem], by simp [go_sem], by simp [go_sem], by simp [go_sem], by simp [go_sem]⟩
theorem results_cell3 {P : Program} {fn : Func} {t s r : Tmp} {ty : TypeId} (h : fn.results = #[.cell t ty, .tmp s, .tmp r]) (tmps : Array Value) {w : World} {p : Addr} {v u x : Value} (hp : tmps.getD t undef = .pointer (some p)) (hs : tmps.getD s undef = u) (hx : tmps.getD r undef = x) (hl : (loadVar ty p).run P w = .ok v w) : (results fn tmps).run P w = .ok (.tuple #[v, u, x]) w := by
  rw [Array.getD_eq_getD_getElem?] at hp hs hx
  simp [results, h, hp, hs, hx, asAddr, hl]
set_option maxHeartbeats 3200000 in
set_option maxRecDepth 100000 in
theorem parse_ok {w : World} {s : ByteArray} {b' : Nat} {r : Sm2} (hs : s.size ≤ 140737488351232) (hb : b' ≤ s.size) (he : skipN s b' = s.size) (ht : OkS r) (hr : ∀ pb, w.heap.size ≤ pb → Rds 40 w s pb 0 0 r b') :
    Calls Tryz.prog 14 #[.string s] w fun en w' => ∃ x, en = .returned (.tuple #[x, .int .i64 0, .int .i64 0]) ∧ (ofP r.1 r.2).At (New w w') w' x ∧ Fr w w' := by
  have HW := Lib.hid (whole_ok (w0 := w) (pb := w.heap.size + 1) (by omega) hs hb he (hr _ (by omega)) ((w.alloc (.cells #[.slice none 0 0, .slice none 0 0, .int .i64 0] 25)).alloc (.cells #[.string s, .int .i64 0, .int .i64 0, .int .i64 0] 53)) (((Fr.refl w).alloc _).alloc _) (PAt.new (by simp)))
  have HT := Lib.hid ht
  clear hr ht
  go_enter Tryz.func14, Tryz.ntmps14
  go_wp2_with fail
  refine HW.out.mono ?_
  rintro en w1 ⟨v, rfl, ⟨mb, rfl, hm, hnew⟩, hk1⟩
  have hkA := (Fr.refl w1).alloc (.cells #[.map mb, .int .i64 r.2] 46)
  have HB1 := Lib.hid ((((B3.new rfl).fr ((Fr.refl _).alloc _)).kp hk1 (show ¬ w.heap.size = w.heap.size + 1 by omega)).fr hkA : B3 (w1.alloc (.cells #[.map mb, .int .i64 r.2] 46)) w.heap.size (.slice none 0 0) (.slice none 0 0) (.int .i64 0))
  have HF1 := Lib.hid (((Kp.of (S := fun g => g = w.heap.size + 1) (((Fr.refl w).alloc (.cells #[.slice none 0 0, .slice none 0 0, .int .i64 0] 25)).alloc (.cells #[.string s, .int .i64 0, .int .i64 0, .int .i64 0] 53))).call hk1).fr hkA |>.to (by rintro x h; omega))
  have HL := Lib.hid (lin_any r.1 r.2 mb (w1.alloc (.cells #[.map mb, .int .i64 r.2] 46)) HT.out.asc (by have := HT.out.len; omega) HT.out.sm (hm.fr hkA))
  clear hm hnew hk1 hkA
  go_wp2_with fail
  refine HL.out.mono ?_
  rintro en w2 ⟨v, rfl, hx, hf2⟩
  obtain ⟨A5, B5, c5, d5, rfl, hx5⟩ := id hx
  have HB2 := Lib.hid (HB1.out.fr hf2)
  have HF2 := Lib.hid (HF1.out.call hf2)
  have hlt := HB1.out.lt
  obtain ⟨c0, c1, c2, f0, f1, f2⟩ := HB2.out
  go_wp2_with fail
  obtain ⟨w8, hw8, hl8, hr8, hf8⟩ := res_put (a := ofP r.1 r.2) (F := fun _ => False) (G := New (w1.alloc (.cells #[.map mb, .int .i64 r.2] 46)) w2) (show w.heap.size ≤ w.heap.size by omega) HF2.out HB2.out hx (fun g h => by
    have h1 := h.1
    have h3 := HF1.out.size
    exact ⟨by omega, .inr ⟨by omega, h.2⟩⟩)
  have hoff : (ofP r.1 r.2).off = r.2 := rfl
  rw [hoff] at hw8 hl8 hr8
  rw [← hw8]
  exact bodyPost_ret (v := .tuple #[.agg #[.slice A5 (fsts r.1).length c5, .slice B5 (snds r.1).length d5, .int .i64 r.2], .int .i64 0, .int .i64 0]) (results_cell3 Tryz.results14 _ rfl rfl rfl hl8) rfl ⟨_, rfl, hr8.mono (fun g h => h.elim (fun h => h.elim) id), hf8⟩
set_option maxHeartbeats 3200000 in
set_option maxRecDepth 100000 in
theorem parse_bad {w : World} {s : ByteArray} {wa : Nat} (hr : ∀ pb, w.heap.size ≤ pb → RdsR 40 w s pb 0 0 none wa) :
    Calls Tryz.prog 14 #[.string s] w fun en w' => en = .returned (.tuple #[.agg #[.slice none 0 0, .slice none 0 0, .int .i64 0], .int .i64 (wa : Int), .int .i64 121]) ∧ Fr w w' := by
  have HW := Lib.hid (whole_bad (w0 := w) (pb := w.heap.size + 1) (by omega) (hr _ (by omega)) ((w.alloc (.cells #[.slice none 0 0, .slice none 0 0, .int .i64 0] 25)).alloc (.cells #[.string s, .int .i64 0, .int .i64 0, .int .i64 0] 53)) (((Fr.refl w).alloc _).alloc _) (PAt.new (by simp)))
  clear hr
  go_enter Tryz.func14, Tryz.ntmps14
  go_wp2_with fail
  refine HW.out.mono ?_
  rintro en w1 ⟨a', rfl, hp1, hk1⟩
  have HB1 := Lib.hid (((B3.new rfl).fr ((Fr.refl _).alloc _)).kp hk1 (show ¬ w.heap.size = w.heap.size + 1 by omega) : B3 w1 w.heap.size (.slice none 0 0) (.slice none 0 0) (.int .i64 0))
  have HF1 := Lib.hid (((Kp.of (S := fun g => g = w.heap.size + 1) (((Fr.refl w).alloc (.cells #[.slice none 0 0, .slice none 0 0, .int .i64 0] 25)).alloc (.cells #[.string s, .int .i64 0, .int .i64 0, .int .i64 0] 53))).call hk1) |>.to (by rintro x h; omega))
  obtain ⟨c0, c1, c2, f0, f1, f2⟩ := HB1.out
  obtain ⟨k0, k1, k2, k3, g1, g2, g3⟩ := hp1
  have z1 := lt_of_cell c0
  have z2 := lt_of_cell k0
  clear hk1
  go_wp2
  go_region
  go_wp2
  exact bodyPost_ret (v := .tuple #[.agg #[.slice none 0 0, .slice none 0 0, .int .i64 0], .int .i64 (wa : Int), .int .i64 121]) (results_cell3 Tryz.results14 _ rfl rfl rfl (load_lin (by simp [go_sem, *]) (by simp [go_sem, *]) (by simp [go_sem, *]))) rfl
    ⟨rfl, ((((HF1.out.set (p := ⟨w.heap.size, 0, none⟩) (by simp) _).set (p := ⟨w.heap.size, 1, none⟩) (by simp) _).set (p := ⟨w.heap.size, 2, none⟩) (by simp) _).alloc _).drew⟩
end Go.Proofs.YtbnaakognnkhdaaGreatDoor
