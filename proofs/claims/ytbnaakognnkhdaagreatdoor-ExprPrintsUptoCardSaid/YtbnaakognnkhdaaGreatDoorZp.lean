/- The reader: a name or a number. -/
import Derived.Test.YtbnaakognnkhdaaGreatDoorZo
namespace Go.Proofs.YtbnaakognnkhdaaGreatDoor
open Go.RowKit
set_option linter.unusedSimpArgs false
set_option linter.unusedVariables false

/-- The bytes from a on, m of them. -/
def cutS (s : ByteArray) (a m : Nat) : ByteArray := s.extract a (a + m)
theorem cut_list (s : ByteArray) (a m : Nat) : (cutS s a m).data.toList = (s.data.toList.drop a).take m := by
  unfold cutS
  rw [ByteArray.data_extract]
  simp
theorem tail_list (s : ByteArray) (a : Nat) : (s.extract a s.size).data.toList = s.data.toList.drop a := by
  rw [ByteArray.data_extract]
  simp only [Array.toList_extract, List.extract_eq_take_drop]
  rw [List.take_of_length_le (by simp)]
theorem cut_size {s : ByteArray} {a m : Nat} (h : a + m ≤ s.size) : (cutS s a m).size = m := by
  unfold cutS
  rw [ByteArray.size_extract]
  omega
/-- A text writes a number: the program's own reading says so, in whatever world stands over w0. -/
def NumC (w0 : World) (s : ByteArray) (n : Int) : Prop := I64 n ∧ ∀ w, Fr w0 w → Calls Tryz.prog 85 #[.string s] w fun e w' => e = .returned (.tuple #[.int .i64 n, .bool true]) ∧ Fr w w'
theorem slice_at (s : ByteArray) (i j : Nat) (h1 : i ≤ j) (h2 : j ≤ s.size) (w : World) :
    (Instr.slice 9 (.string s) (some (.int .i64 (i : Int))) (some (.int .i64 (j : Int))) none).run Tryz.prog w = .ok (.string (s.extract i j)) w := by
  have := run_slice_string (P := Tryz.prog) w 9 s .i64 .i64 (i : Int) (j : Int) Tryz.underlying9 (by omega) (by omega) (by omega)
  simpa using this
/-- A sum is put into a block of the call's own. -/
theorem sum_put {w w4 : World} {rb : Nat} {mb : Option Nat} {P : List (ByteArray × Int)} {off : Int} {x y : Value} (hB : B2 w4 rb x y) (hm : MapP w4 mb P) (hnew : ∀ b, mb = some b → w.heap.size ≤ b) (hne : ∀ b, mb = some b → b ≠ rb) :
    ∃ w5, w5 = (w4.setCell ⟨rb, 0, none⟩ (.map mb)).setCell ⟨rb, 1, none⟩ (.int .i64 off) ∧ (loadVar 46 ⟨rb, 0, none⟩).run Tryz.prog w5 = .ok (.agg #[.map mb, .int .i64 off]) w5 ∧ SumV w w5 (.agg #[.map mb, .int .i64 off]) P off ∧ Kp (fun g => g = rb) w4 w5 := by
  obtain ⟨z0, z1, f0, f1⟩ := hB
  refine ⟨_, rfl, load_sum ?_ ?_, ⟨mb, rfl, hm.keep fun b e => set2_heap w4 rb _ _ b (hne b e), hnew⟩, ((Kp.refl (fun g => g = rb) w4).set (p := ⟨rb, 0, none⟩) (.inl rfl) _).set (p := ⟨rb, 1, none⟩) (.inl rfl) _⟩
  · simp [go_sem, *]
  · simp [go_sem, *]
set_option maxHeartbeats 3200000 in
set_option maxRecDepth 100000 in
theorem run_name (s : ByteArray) (a m : Nat) (e b : Int) (pb : Nat) (w : World) (hs : s.size ≤ 140737488351232) (ha : a ≤ s.size) (hm : runL (s.data.toList.drop a) = m) (hn : nameB (cutS s a m) = true) (hp : PAt w pb s (a : Int) e b) :
    Calls Tryz.prog 72 #[.pointer (some ⟨pb, 0, none⟩)] w fun en w' => ∃ v, en = .returned (.tuple #[v, .bool true]) ∧ SumV w w' v [(cutS s a m, 1)] 0 ∧ PAt w' pb s ((a + m : Nat) : Int) e b ∧ Kp (fun g => g = pb) w w' := by
  have HP := Lib.hid hp
  have z0 := hp.lt
  obtain ⟨c0, c1, c2, c3, f1, f2, f3⟩ := id hp
  clear hp
  have hrl := fun w => runLength_any (s.extract a s.size) w (by rw [ByteArray.size_extract]; unfold maxLen; omega)
  rw [tail_list, hm] at hrl
  replace hrl := fun w => (hrl w).mono fun e w' (h : _ ∧ w = w') => (⟨h.1, h.2.symm⟩ : _ ∧ w' = w)
  have hml : a + m ≤ s.size := by have := runL_le (s.data.toList.drop a); simp at this; omega
  have hcs : (s.extract a (a + m)).size = m := cut_size hml
  have hnm := fun w => isName_any (s.extract a (a + m)) w (by rw [hcs]; unfold maxLen; omega)
  have hn' : nameB (s.extract a (a + m)) = true := hn
  rw [hn'] at hnm
  have hsy := fun w => symbol_any (s.extract a (a + m)) w (by rw [hcs]; unfold maxLen; omega) hn'
  have ec : ((a : Int) + (m : Int)) = ((a + m : Nat) : Int) := by omega
  have hj1 : (a : Int) ≤ (s.size : Int) := by omega
  have hj2 : (a : Int) + (m : Int) ≤ (s.size : Int) := by omega
  have hsl := slice_at s a (a + m) (by omega) hml
  rw [← ec] at hsl
  have EC := Lib.hid ec
  have hA1 : (0 : Int) ≤ (a : Int) + (m : Int) := by omega
  have hT : ((a : Int) + (m : Int)).toNat = a + m := by omega
  have hmin : min (a + m) s.size - a = m := by omega
  have HML := Lib.hid hml
  have HSM := Lib.hid hs
  clear hn hn' ec hcs hm hml ha
  go_enter Tryz.func72, Tryz.ntmps72
  go_wp2_with fail
  go_quiet ((go_at_call 44; refine Calls.quiet_of_same (hrl _)))
  obtain ⟨W1, hW1⟩ : ∃ W1, W1 = ((w.alloc (.cells #[.map none, .int .i64 0] 46)).drewN nq).setCell ⟨pb, 1, none⟩ (.int .i64 ((a : Int) + (m : Int))) := ⟨_, rfl⟩
  have HPA := Lib.hid (show PAt W1 pb s ((a : Int) + (m : Int)) e b by rw [hW1]; exact ((HP.out.fr ((Fr.refl w).alloc _)).fr (Fr.drewN (Fr.refl _) nq)).set1)
  have HKW := Lib.hid (show Kp (fun g => g = pb) w W1 by rw [hW1]; exact (((Kp.refl (fun g => g = pb) w).alloc _).drewN nq).set (p := ⟨pb, 1, none⟩) (.inl rfl) _)
  have HBW := Lib.hid (show B2 W1 w.heap.size (.map none) (.int .i64 0) by rw [hW1]; exact ((B2.new rfl).fr (Fr.drewN (Fr.refl _) nq)).kp ((Kp.refl (fun g => g = pb) _).set (p := ⟨pb, 1, none⟩) (.inl rfl) _) (show ¬ w.heap.size = pb by omega))
  go_wp2_with (first
    | (go_at_call 29; refine (hnm _).mono ?_; rintro en w2 ⟨rfl, rfl⟩)
    | fail)
  rw [← hW1]
  refine (hsy _).mono ?_
  rintro en w3 ⟨v, rfl, ⟨mb, rfl, hmp, hnew⟩, hf⟩
  have HM3 := Lib.hid hmp
  have HB3 := Lib.hid (HBW.out.fr hf)
  have HP3 := Lib.hid (HPA.out.fr hf)
  have HK3 := Lib.hid (HKW.out.fr hf)
  have HN3 := Lib.hid (show ∀ b, mb = some b → w.heap.size < b from fun b e => by have := hnew b e; have := HBW.out.lt; omega)
  obtain ⟨r0, r1, q0, q1⟩ := HB3.out
  have z3 := HB3.out.lt
  clear hmp hnew hf hW1
  go_wp2
  obtain ⟨w5, hw5, hl5, hv5, hf5⟩ := sum_put (off := 0) HB3.out HM3.out (fun b e => Nat.le_of_lt (HN3.out b e)) (fun b e => by have := HN3.out b e; omega)
  rw [← hw5]
  exact bodyPost_ret (v := .tuple #[.agg #[.map mb, .int .i64 0], .bool true]) (results_cell2 Tryz.results72 _ rfl rfl hl5) rfl ⟨_, rfl, hv5, by rw [← EC.out]; exact HP3.out.kp hf5 (by have := HP.out.lt; omega), HK3.out.trans hf5 (fun x hx e => by omega)⟩
set_option maxHeartbeats 3200000 in
set_option maxRecDepth 100000 in
theorem run_num (s : ByteArray) (a m : Nat) (n e b : Int) (pb : Nat) (w0 w : World) (hz : Fr w0 w) (hzp : w0.heap.size ≤ pb) (hs : s.size ≤ 140737488351232) (ha : a ≤ s.size) (hm : runL (s.data.toList.drop a) = m) (hn : nameB (cutS s a m) = false) (hnc : NumC w0 (cutS s a m) n) (hp : PAt w pb s (a : Int) e b) :
    Calls Tryz.prog 72 #[.pointer (some ⟨pb, 0, none⟩)] w fun en w' => ∃ v, en = .returned (.tuple #[v, .bool true]) ∧ SumV w w' v [] n ∧ PAt w' pb s ((a + m : Nat) : Int) e b ∧ Kp (fun g => g = pb) w w' := by
  have HP := Lib.hid hp
  have z0 := hp.lt
  obtain ⟨c0, c1, c2, c3, f1, f2, f3⟩ := id hp
  clear hp
  have hrl := fun w => runLength_any (s.extract a s.size) w (by rw [ByteArray.size_extract]; unfold maxLen; omega)
  rw [tail_list, hm] at hrl
  replace hrl := fun w => (hrl w).mono fun e w' (h : _ ∧ w = w') => (⟨h.1, h.2.symm⟩ : _ ∧ w' = w)
  have hml : a + m ≤ s.size := by have := runL_le (s.data.toList.drop a); simp at this; omega
  have hcs : (s.extract a (a + m)).size = m := cut_size hml
  have hnm := fun w => isName_any (s.extract a (a + m)) w (by rw [hcs]; unfold maxLen; omega)
  have hn' : nameB (s.extract a (a + m)) = false := hn
  have HNC := Lib.hid hnc
  clear hnc
  rw [hn'] at hnm
  have ec : ((a : Int) + (m : Int)) = ((a + m : Nat) : Int) := by omega
  have hj1 : (a : Int) ≤ (s.size : Int) := by omega
  have hj2 : (a : Int) + (m : Int) ≤ (s.size : Int) := by omega
  have hsl := slice_at s a (a + m) (by omega) hml
  rw [← ec] at hsl
  have EC := Lib.hid ec
  have hA1 : (0 : Int) ≤ (a : Int) + (m : Int) := by omega
  have hT : ((a : Int) + (m : Int)).toNat = a + m := by omega
  have hmin : min (a + m) s.size - a = m := by omega
  have HML := Lib.hid hml
  have HSM := Lib.hid hs
  clear hn hn' ec hcs hm hml ha
  go_enter Tryz.func72, Tryz.ntmps72
  go_wp2_with fail
  go_quiet ((go_at_call 44; refine Calls.quiet_of_same (hrl _)))
  obtain ⟨W1, hW1⟩ : ∃ W1, W1 = ((w.alloc (.cells #[.map none, .int .i64 0] 46)).drewN nq).setCell ⟨pb, 1, none⟩ (.int .i64 ((a : Int) + (m : Int))) := ⟨_, rfl⟩
  have HPA := Lib.hid (show PAt W1 pb s ((a : Int) + (m : Int)) e b by rw [hW1]; exact ((HP.out.fr ((Fr.refl w).alloc _)).fr (Fr.drewN (Fr.refl _) nq)).set1)
  have HKW := Lib.hid (show Kp (fun g => g = pb) w W1 by rw [hW1]; exact (((Kp.refl (fun g => g = pb) w).alloc _).drewN nq).set (p := ⟨pb, 1, none⟩) (.inl rfl) _)
  have HBW := Lib.hid (show B2 W1 w.heap.size (.map none) (.int .i64 0) by rw [hW1]; exact ((B2.new rfl).fr (Fr.drewN (Fr.refl _) nq)).kp ((Kp.refl (fun g => g = pb) _).set (p := ⟨pb, 1, none⟩) (.inl rfl) _) (show ¬ w.heap.size = pb by omega))
  go_wp2_with (first
    | (go_at_call 29; refine (hnm _).mono ?_; rintro en w2 ⟨rfl, rfl⟩)
    | fail)
  rw [← hW1]
  have hz1 : Fr w0 W1 := ((Kp.of (S := fun g => g = pb) hz).call HKW.out).to (by rintro x h; omega)
  refine (HNC.out.2 W1 hz1).mono ?_
  rintro en w2 ⟨rfl, hf2⟩
  go_wp2_with fail
  refine (number_any n w2).mono ?_
  rintro en w3 ⟨rfl, hf3⟩
  have hf := hf2.call hf3
  have HB3 := Lib.hid (HBW.out.fr hf)
  have HP3 := Lib.hid (HPA.out.fr hf)
  have HK3 := Lib.hid (HKW.out.fr hf)
  obtain ⟨r0, r1, q0, q1⟩ := HB3.out
  have z3 := HB3.out.lt
  clear hf hf2 hf3 hW1 hz1
  go_wp2
  obtain ⟨w5, hw5, hl5, hv5, hf5⟩ := sum_put (w := w) (mb := none) (P := []) (off := n) HB3.out rfl (fun b e => by cases e) (fun b e => by cases e)
  rw [← hw5]
  exact bodyPost_ret (v := .tuple #[.agg #[.map none, .int .i64 n], .bool true]) (results_cell2 Tryz.results72 _ rfl rfl hl5) rfl ⟨_, rfl, hv5, by rw [← EC.out]; exact HP3.out.kp hf5 (by have := HP.out.lt; omega), HK3.out.trans hf5 (fun x hx e => by omega)⟩
end Go.Proofs.YtbnaakognnkhdaaGreatDoor
