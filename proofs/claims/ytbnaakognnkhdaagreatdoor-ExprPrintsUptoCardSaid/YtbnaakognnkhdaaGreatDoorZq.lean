/- The reader: a factor. -/
import Derived.Test.YtbnaakognnkhdaaGreatDoorZp
namespace Go.Proofs.YtbnaakognnkhdaaGreatDoor
open Go.RowKit
set_option linter.unusedSimpArgs false
set_option linter.unusedVariables false

/-- A sum, plainly: its symbols, its number. -/
abbrev Sm2 := List (ByteArray × Int) × Int
structure OkS (t : Sm2) : Prop where
  asc : ascP t.1
  len : t.1.length ≤ 64
  sm : ∀ x ∈ t.1, x.1.size ≤ 140737488351232 ∧ I64 x.2
def byS (t : Sm2) (n : Int) : Sm2 := (mergeP n [] t.1, mul64 n t.2)
theorem OkS.by {t : Sm2} (h : OkS t) (n : Int) : OkS (byS t n) := by
  have hs := merge_sm (k := n) _ [] t.1 (Nat.le_refl _) (fun x h => by cases h) h.sm
  have := h.len
  exact ⟨merge_asc _ [] t.1 (Nat.le_refl _) trivial h.asc, by have := hs.1; simp [byS] at this ⊢; omega, hs.2⟩
/-- The function fn, told how deep it stands, reads from a to a' the sum t. -/
def Rds (fn : Nat) (w0 : World) (s : ByteArray) (pb d a : Nat) (t : Sm2) (a' : Nat) : Prop :=
  ∀ (w : World) (e b : Int), Fr w0 w → PAt w pb s (a : Int) e b → Calls Tryz.prog fn #[.pointer (some ⟨pb, 0, none⟩), .int .i64 (d : Int)] w fun en w' => ∃ v, en = .returned (.tuple #[v, .bool true]) ∧ SumV w w' v t.1 t.2 ∧ PAt w' pb s (a' : Int) e b ∧ Kp (fun g => g = pb) w w'
def Run (w0 : World) (s : ByteArray) (pb a : Nat) (t : Sm2) (a' : Nat) : Prop :=
  ∀ (w : World) (e b : Int), Fr w0 w → PAt w pb s (a : Int) e b → Calls Tryz.prog 72 #[.pointer (some ⟨pb, 0, none⟩)] w fun en w' => ∃ v, en = .returned (.tuple #[v, .bool true]) ∧ SumV w w' v t.1 t.2 ∧ PAt w' pb s (a' : Int) e b ∧ Kp (fun g => g = pb) w w'
theorem run_of_name {w0 : World} {s : ByteArray} {pb a m : Nat} (hs : s.size ≤ 140737488351232) (ha : a ≤ s.size) (hm : runL (s.data.toList.drop a) = m) (hn : nameB (cutS s a m) = true) : Run w0 s pb a ([(cutS s a m, 1)], 0) (a + m) :=
  fun w e b _ hp => run_name s a m e b pb w hs ha hm hn hp
theorem run_of_num {w0 : World} {s : ByteArray} {pb a m : Nat} {n : Int} (hzp : w0.heap.size ≤ pb) (hs : s.size ≤ 140737488351232) (ha : a ≤ s.size) (hm : runL (s.data.toList.drop a) = m) (hn : nameB (cutS s a m) = false) (hc : NumC w0 (cutS s a m) n) : Run w0 s pb a ([], n) (a + m) :=
  fun w e b hz hp => run_num s a m n e b pb w0 w hz hzp hs ha hm hn hc hp
set_option maxHeartbeats 3200000 in
set_option maxRecDepth 100000 in
theorem fac_run {w0 : World} {s : ByteArray} {pb d a : Nat} {t : Sm2} {a' : Nat} (hzp : w0.heap.size ≤ pb) (hs : s.size ≤ 140737488351232) (ha : a ≤ s.size) (h1 : peekN s (skipN s a) ≠ 40) (h2 : peekN s (skipN s a) ≠ 45) (hr : Run w0 s pb (skipN s a) t a') :
    Rds 58 w0 s pb d a t a' := by
  intro w e b hz hp
  have HP := Lib.hid hp
  have z0 := hp.lt
  have HX := Lib.hid (next_any s a e b pb (w.alloc (.cells #[.map none, .int .i64 0] 46)) (by omega) ha (hp.fr ((Fr.refl w).alloc _)))
  obtain ⟨c, hc⟩ : ∃ c : Int, (peekN s (skipN s a) : Int) = c := ⟨_, rfl⟩
  have hc1 : (c != 40) = true := by simp; omega
  have hc2 : (c != 45) = true := by simp; omega
  rw [hc] at HX
  have HR := Lib.hid hr
  clear hr hp hc h1 h2
  go_enter Tryz.func58, Tryz.ntmps58
  go_wp2_with fail
  refine HX.out.mono ?_
  rintro en w1 ⟨rfl, hp1, hk1⟩
  have HP1 := Lib.hid hp1
  have HK1 := Lib.hid (show Kp (fun g => g = pb) w w1 from ((Kp.refl (fun g => g = pb) w).alloc _).call hk1)
  have HB1 := Lib.hid ((B2.new rfl).kp hk1 (show ¬ w.heap.size = pb by omega) : B2 w1 w.heap.size (.map none) (.int .i64 0))
  have HZ1 := Lib.hid (show Fr w0 w1 from ((Kp.of (S := fun g => g = pb) hz).call HK1.out).to (by rintro x h; omega))
  clear hp1 hk1
  go_wp2_with fail
  refine (HR.out w1 e b HZ1.out HP1.out).mono ?_
  rintro en w2 ⟨v, rfl, ⟨mb, rfl, hm, hnew⟩, hp2, hk2⟩
  have HP2 := Lib.hid hp2
  have HM2 := Lib.hid hm
  have HN2 := Lib.hid hnew
  have HB2 := Lib.hid (HB1.out.kp hk2 (show ¬ w.heap.size = pb by omega))
  have HK2 := Lib.hid (HK1.out.call hk2)
  have zb := HB1.out.lt
  obtain ⟨r0, r1, q0, q1⟩ := HB2.out
  clear hp2 hm hnew hk2
  go_wp2
  obtain ⟨w5, hw5, hl5, hv5, hf5⟩ := sum_put (w := w) (off := t.2) HB2.out HM2.out (fun b e => by have := HN2.out b e; omega) (fun b e => by have := HN2.out b e; omega)
  rw [← hw5]
  exact bodyPost_ret (v := .tuple #[.agg #[.map mb, .int .i64 t.2], .bool true]) (results_cell2 Tryz.results58 _ rfl rfl hl5) rfl ⟨_, rfl, hv5, HP2.out.kp hf5 (show ¬ pb = w.heap.size by omega), HK2.out.trans hf5 (fun x hx e => by omega)⟩
set_option maxHeartbeats 3200000 in
set_option maxRecDepth 100000 in
theorem fac_neg {w0 : World} {s : ByteArray} {pb d a : Nat} {t : Sm2} {a' : Nat} (hzp : w0.heap.size ≤ pb) (hs : s.size ≤ 140737488351232) (ha : a ≤ s.size) (h1 : peekN s (skipN s a) = 45) (hd : d < 32) (ht : OkS t) (hr : Rds 58 w0 s pb (d + 1) (skipN s a + 1) t a') :
    Rds 58 w0 s pb d a (byS t (-1)) a' := by
  intro w e b hz hp
  have HP := Lib.hid hp
  have z0 := hp.lt
  have HX := Lib.hid (next_any s a e b pb (w.alloc (.cells #[.map none, .int .i64 0] 46)) (by omega) ha (hp.fr ((Fr.refl w).alloc _)))
  rw [h1] at HX
  have HR := Lib.hid hr
  have HT := Lib.hid ht
  have hdd : ((d : Int) == 32) = false := by simp; omega
  have hd1 : (d : Int) + 1 = ((d + 1 : Nat) : Int) := by omega
  have hsk := skip_le ha
  obtain ⟨a1, ha1⟩ : ∃ a1, skipN s a = a1 := ⟨_, rfl⟩
  rw [ha1] at HX HR hsk
  have HA1 := Lib.hid (show (a1 : Int) + 1 = ((a1 + 1 : Nat) : Int) by omega)
  have HD1 := Lib.hid hd1
  clear hr hp h1 ht hd1
  go_enter Tryz.func58, Tryz.ntmps58
  go_wp2_with fail
  refine HX.out.mono ?_
  rintro en w1 ⟨rfl, hp1, hk1⟩
  have HP1 := Lib.hid hp1
  have HK1 := Lib.hid (show Kp (fun g => g = pb) w w1 from ((Kp.refl (fun g => g = pb) w).alloc _).call hk1)
  have HB1 := Lib.hid ((B2.new rfl).kp hk1 (show ¬ w.heap.size = pb by omega) : B2 w1 w.heap.size (.map none) (.int .i64 0))
  obtain ⟨c0, c1, c2, c3, f1, f2, f3⟩ := id hp1
  have z1 := hp1.lt
  clear hp1 hk1
  go_wp2_with fail
  obtain ⟨W1, hW1⟩ : ∃ W1, W1 = w1.setCell ⟨pb, 1, none⟩ (.int .i64 ((a1 : Int) + 1)) := ⟨_, rfl⟩
  rw [← hW1]
  have HPW := Lib.hid (show PAt W1 pb s ((a1 + 1 : Nat) : Int) e b by rw [hW1, ← HA1.out]; exact HP1.out.set1)
  have hkw : Kp (fun g => g = pb) w1 W1 := by rw [hW1]; exact (Kp.refl (fun g => g = pb) w1).set (p := ⟨pb, 1, none⟩) (.inl rfl) _
  have HKW := Lib.hid (HK1.out.call hkw)
  have HBW := Lib.hid (HB1.out.kp hkw (show ¬ w.heap.size = pb by omega))
  have HZW := Lib.hid (show Fr w0 W1 from ((Kp.of (S := fun g => g = pb) hz).call HKW.out).to (by rintro x h; omega))
  clear hkw hW1 c0 c1 c2 c3 f1 f2 f3 z1
  rw [HD1.out]
  refine (HR.out W1 e b HZW.out HPW.out).mono ?_
  rintro en w2 ⟨v, rfl, ⟨mb, rfl, hm, hnew⟩, hp2, hk2⟩
  have HB2 := Lib.hid (HBW.out.kp hk2 (show ¬ w.heap.size = pb by omega))
  have HK2 := Lib.hid (HKW.out.call hk2)
  have zb := HBW.out.lt
  have HP2 := Lib.hid hp2
  have HBY := Lib.hid (by_any t.1 t.2 (-1) mb (w2.alloc (.cells #[.map mb, .int .i64 t.2] 46)) HT.out.asc (by have := HT.out.len; omega) HT.out.sm (hm.fr ((Fr.refl _).alloc _)))
  clear hp2 hm hnew hk2
  go_wp2_with fail
  refine HBY.out.mono ?_
  rintro en w3 ⟨v3, rfl, ⟨mb3, rfl, hm3, hnew3⟩, hf3⟩
  have hf4 := ((Fr.refl w2).alloc (.cells #[.map mb, .int .i64 t.2] 46)).call hf3
  have HB3 := Lib.hid (HB2.out.fr hf4)
  have HP3 := Lib.hid (HP2.out.fr hf4)
  have HK3 := Lib.hid (HK2.out.fr hf4)
  have HM3 := Lib.hid hm3
  have HN3 := Lib.hid (show ∀ b, mb3 = some b → w.heap.size < b from fun b e => by have h1 := hnew3 b e; have h2 := HB2.out.lt; simp at h1; omega)
  obtain ⟨r0, r1, q0, q1⟩ := HB3.out
  have zb3 := HB3.out.lt
  clear hm3 hnew3 hf3 hf4
  go_wp2
  obtain ⟨w5, hw5, hl5, hv5, hf5⟩ := sum_put (w := w) (off := mul64 (-1) t.2) HB3.out HM3.out (fun b e => by have := HN3.out b e; omega) (fun b e => by have := HN3.out b e; omega)
  rw [← hw5]
  exact bodyPost_ret (v := .tuple #[.agg #[.map mb3, .int .i64 (mul64 (-1) t.2)], .bool true]) (results_cell2 Tryz.results58 _ rfl rfl hl5) rfl ⟨_, rfl, hv5, HP3.out.kp hf5 (show ¬ pb = w.heap.size by omega), HK3.out.trans hf5 (fun x hx e => by omega)⟩
set_option maxHeartbeats 3200000 in
set_option maxRecDepth 100000 in
theorem fac_par {w0 : World} {s : ByteArray} {pb d a : Nat} {t : Sm2} {a' : Nat} (hzp : w0.heap.size ≤ pb) (hs : s.size ≤ 140737488351232) (ha : a ≤ s.size) (h1 : peekN s (skipN s a) = 40) (hd : d < 32) (hr : Rds 73 w0 s pb (d + 1) (skipN s a + 1) t a') :
    Rds 58 w0 s pb d a t a' := by
  intro w e b hz hp
  have HP := Lib.hid hp
  have z0 := hp.lt
  have HX := Lib.hid (next_any s a e b pb (w.alloc (.cells #[.map none, .int .i64 0] 46)) (by omega) ha (hp.fr ((Fr.refl w).alloc _)))
  rw [h1] at HX
  have HR := Lib.hid hr
  have hdd : ((d : Int) == 32) = false := by simp; omega
  have hd1 : (d : Int) + 1 = ((d + 1 : Nat) : Int) := by omega
  have hsk := skip_le ha
  obtain ⟨a1, ha1⟩ : ∃ a1, skipN s a = a1 := ⟨_, rfl⟩
  rw [ha1] at HX HR hsk
  have HA1 := Lib.hid (show (a1 : Int) + 1 = ((a1 + 1 : Nat) : Int) by omega)
  have HD1 := Lib.hid hd1
  clear hr hp h1 hd1
  go_enter Tryz.func58, Tryz.ntmps58
  go_wp2_with fail
  refine HX.out.mono ?_
  rintro en w1 ⟨rfl, hp1, hk1⟩
  have HP1 := Lib.hid hp1
  have HK1 := Lib.hid (show Kp (fun g => g = pb) w w1 from ((Kp.refl (fun g => g = pb) w).alloc _).call hk1)
  have HB1 := Lib.hid ((B2.new rfl).kp hk1 (show ¬ w.heap.size = pb by omega) : B2 w1 w.heap.size (.map none) (.int .i64 0))
  obtain ⟨c0, c1, c2, c3, f1, f2, f3⟩ := id hp1
  have z1 := hp1.lt
  clear hp1 hk1
  go_wp2_with fail
  obtain ⟨W1, hW1⟩ : ∃ W1, W1 = w1.setCell ⟨pb, 1, none⟩ (.int .i64 ((a1 : Int) + 1)) := ⟨_, rfl⟩
  rw [← hW1]
  have HPW := Lib.hid (show PAt W1 pb s ((a1 + 1 : Nat) : Int) e b by rw [hW1, ← HA1.out]; exact HP1.out.set1)
  have hkw : Kp (fun g => g = pb) w1 W1 := by rw [hW1]; exact (Kp.refl (fun g => g = pb) w1).set (p := ⟨pb, 1, none⟩) (.inl rfl) _
  have HKW := Lib.hid (HK1.out.call hkw)
  have HBW := Lib.hid (HB1.out.kp hkw (show ¬ w.heap.size = pb by omega))
  have HZW := Lib.hid (show Fr w0 W1 from ((Kp.of (S := fun g => g = pb) hz).call HKW.out).to (by rintro x h; omega))
  clear hkw hW1 c0 c1 c2 c3 f1 f2 f3 z1
  rw [HD1.out]
  refine (HR.out W1 e b HZW.out HPW.out).mono ?_
  rintro en w2 ⟨v, rfl, ⟨mb, rfl, hm, hnew⟩, hp2, hk2⟩
  have HP2 := Lib.hid hp2
  have HM2 := Lib.hid hm
  have HN2 := Lib.hid hnew
  have HB2 := Lib.hid (HBW.out.kp hk2 (show ¬ w.heap.size = pb by omega))
  have HK2 := Lib.hid (HKW.out.call hk2)
  have zb := HBW.out.lt
  obtain ⟨r0, r1, q0, q1⟩ := HB2.out
  have zb2 := HB2.out.lt
  clear hp2 hm hnew hk2
  go_wp2
  obtain ⟨w5, hw5, hl5, hv5, hf5⟩ := sum_put (w := w) (off := t.2) HB2.out HM2.out (fun b e => by have := HN2.out b e; omega) (fun b e => by have := HN2.out b e; omega)
  rw [← hw5]
  exact bodyPost_ret (v := .tuple #[.agg #[.map mb, .int .i64 t.2], .bool true]) (results_cell2 Tryz.results58 _ rfl rfl hl5) rfl ⟨_, rfl, hv5, HP2.out.kp hf5 (show ¬ pb = w.heap.size by omega), HK2.out.trans hf5 (fun x hx e => by omega)⟩
end Go.Proofs.YtbnaakognnkhdaaGreatDoor
