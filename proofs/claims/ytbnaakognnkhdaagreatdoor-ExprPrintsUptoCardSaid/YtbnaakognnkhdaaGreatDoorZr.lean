/- The reader: a sum in parentheses. -/
import Derived.Test.YtbnaakognnkhdaaGreatDoorZq
namespace Go.Proofs.YtbnaakognnkhdaaGreatDoor
open Go.RowKit
set_option linter.unusedSimpArgs false
set_option linter.unusedVariables false

theorem map_no_cell {w : World} {b o : Nat} {P : List (ByteArray × Int)} {v : Value} (h : MapP w (some b) P) (c : w.cell? ⟨b, o, none⟩ = some v) : False := by
  obtain ⟨es, clock, hb, _⟩ := h
  simp [World.cell?, hb] at c
set_option maxHeartbeats 3200000 in
set_option maxRecDepth 100000 in
theorem inner_ok {w0 : World} {s : ByteArray} {pb d a : Nat} {t : Sm2} {a' : Nat} (hzp : w0.heap.size ≤ pb) (hs : s.size ≤ 140737488351232) (ha : a' ≤ s.size) (h1 : peekN s (skipN s a') = 41) (hr : Rds 40 w0 s pb d a t a') :
    Rds 73 w0 s pb d a t (skipN s a' + 1) := by
  intro w e b hz hp
  have HP := Lib.hid hp
  have z0 := hp.lt
  have HR := Lib.hid (hr (w.alloc (.cells #[.map none, .int .i64 0] 46)) e b (hz.alloc _) (hp.fr ((Fr.refl w).alloc _)))
  have HXX := Lib.hid (fun W (h : PAt W pb s (a' : Int) e b) => next_any s a' e b pb W (by omega) ha h)
  have hsk := skip_le ha
  obtain ⟨a1, ha1⟩ : ∃ a1, skipN s a' = a1 := ⟨_, rfl⟩
  rw [h1, ha1] at HXX
  rw [ha1] at hsk ⊢
  have HA1 := Lib.hid (show (a1 : Int) + 1 = ((a1 + 1 : Nat) : Int) by omega)
  clear hr hp h1 ha1
  go_enter Tryz.func73, Tryz.ntmps73
  go_wp2_with fail
  refine HR.out.mono ?_
  rintro en w1 ⟨v, rfl, ⟨mb, rfl, hm, hnew⟩, hp1, hk1⟩
  obtain ⟨q, hq⟩ : ∃ q, w1.heap.size = q := ⟨_, rfl⟩
  obtain ⟨W, hW⟩ : ∃ W, W = w1.alloc (.cells #[.map mb, .int .i64 t.2] 46) := ⟨_, rfl⟩
  have hkA : Fr w1 W := by rw [hW]; exact (Fr.refl w1).alloc _
  have HB1 := Lib.hid (((B2.new rfl).kp hk1 (show ¬ w.heap.size = pb by omega)).fr hkA : B2 W w.heap.size (.map none) (.int .i64 0))
  have HQ1 := Lib.hid (show B2 W q (.map mb) (.int .i64 t.2) by rw [hW]; exact B2.new hq.symm)
  have HK1 := Lib.hid (show Kp (fun g => g = pb) w W from (((Kp.refl (fun g => g = pb) w).alloc _).call hk1).fr hkA)
  have HP1 := Lib.hid (hp1.fr hkA)
  have HM1 := Lib.hid (hm.fr hkA)
  have HN1 := Lib.hid (show (∀ b, mb = some b → w.heap.size < b ∧ b < q) ∧ w.heap.size < q ∧ pb < q from ⟨fun b e => by have h1 := hnew b e; simp at h1; subst e; have := hm.lt; exact ⟨by omega, by omega⟩, by have := hk1.size; simp at this; omega, by have := hp1.lt; omega⟩)
  clear hp1 hk1 hm hnew hkA
  go_wp2_with fail
  rw [← hW]
  refine (HXX.out W HP1.out).mono ?_
  rintro en w2 ⟨rfl, hp2, hk2⟩
  have HP2 := Lib.hid hp2
  have HB2 := Lib.hid (HB1.out.kp hk2 (show ¬ w.heap.size = pb by omega))
  have HQ2 := Lib.hid (HQ1.out.kp hk2 (show ¬ q = pb by have := HN1.out.2.2; omega))
  have HM2 := Lib.hid (HM1.out.kp hk2 (fun b e h => by subst e h; exact map_no_cell HM1.out HP1.out.c0))
  have HK2 := Lib.hid (HK1.out.call hk2)
  obtain ⟨c0, c1, c2, c3, f1, f2, f3⟩ := id hp2
  obtain ⟨u0, u1, _, _⟩ := HQ2.out
  obtain ⟨r0, r1, q0, q1⟩ := HB2.out
  obtain ⟨hn1, hn2, hn3⟩ := HN1.out
  have z1 := hp2.lt
  have z2 := HQ2.out.lt
  have z3 := HB2.out.lt
  clear hp2 hk2 hW
  have HBW := Lib.hid (HB2.out.kp ((Kp.refl (fun g => g = pb) w2).set (p := ⟨pb, 1, none⟩) (.inl rfl) (.int .i64 ((a1 : Int) + 1))) (show ¬ w.heap.size = pb by omega))
  have HMW := Lib.hid (HM2.out.kp ((Kp.refl (fun g => g = pb) w2).set (p := ⟨pb, 1, none⟩) (.inl rfl) (.int .i64 ((a1 : Int) + 1))) (fun b e h => by subst e h; exact map_no_cell HM2.out HP2.out.c0))
  have HPW := Lib.hid (show PAt (w2.setCell ⟨pb, 1, none⟩ (.int .i64 ((a1 : Int) + 1))) pb s ((a1 + 1 : Nat) : Int) e b by rw [← HA1.out]; exact HP2.out.set1)
  have HKW := Lib.hid (HK2.out.set (p := ⟨pb, 1, none⟩) (.inl rfl) (.int .i64 ((a1 : Int) + 1)))
  go_wp2
  obtain ⟨w5, hw5, hl5, hv5, hf5⟩ := sum_put (w := w) (off := t.2) HBW.out HMW.out (fun b e => by have := (HN1.out.1 b e).1; omega) (fun b e => by have := (HN1.out.1 b e).1; omega)
  rw [← hw5]
  exact bodyPost_ret (v := .tuple #[.agg #[.map mb, .int .i64 t.2], .bool true]) (results_cell2 Tryz.results73 _ rfl rfl hl5) rfl ⟨_, rfl, hv5, HPW.out.kp hf5 (show ¬ pb = w.heap.size by omega), HKW.out.trans hf5 (fun x hx e => by omega)⟩
end Go.Proofs.YtbnaakognnkhdaaGreatDoor
