/- The chapter's two examples. -/
import Derived.Test.YtbnaakognnkhdaaGreatDoorZx
namespace Go.Proofs.YtbnaakognnkhdaaGreatDoor
open Go.RowKit
set_option linter.unusedSimpArgs false
set_option linter.unusedVariables false

def aB : ByteArray := ⟨#[97]⟩
def bB : ByteArray := ⟨#[98]⟩
theorem ab_lt : ltB aB bB = true := by unfold ltB; rw [ByteArray.toList_eq, ByteArray.toList_eq]; rfl
theorem ba_lt : ltB bB aB = false := by unfold ltB; rw [ByteArray.toList_eq, ByteArray.toList_eq]; rfl
theorem aa_lt : ltB aB aB = false := lt_irrefl' _
theorem bb_lt : ltB bB bB = false := lt_irrefl' _
theorem wr (x : Int) (h : I64 x) : wrap64 x = x := wrap_id h
theorem e_neg (s : ByteArray) : byS ([(s, 1)], 0) (-1) = ([(s, -1)], 0) := by
  simp [byS, mergeP, pushP, mul64, wrap64]
theorem e1 : addS ([(aB, 1)], 0) ([(bB, -1)], 0) = ([(aB, 1), (bB, -1)], 0) := by
  simp [addS, mergeP, pushP, mul64, add64, wrap64, ab_lt]
theorem e2 : byS ([(aB, 1), (bB, -1)], 0) 2 = ([(aB, 2), (bB, -2)], 0) := by
  simp [byS, mergeP, pushP, mul64, wrap64]
theorem e3 : addS ([(aB, 2), (bB, -2)], 0) ([], 3) = ([(aB, 2), (bB, -2)], 3) := by
  simp [addS, mergeP, pushP, mul64, add64, wrap64]
theorem e4 : addS ([(aB, 2), (bB, -2)], 3) ([(aB, -1)], 0) = ([(aB, 1), (bB, -2)], 3) := by
  simp [addS, mergeP, pushP, mul64, add64, wrap64, aa_lt]
theorem sz_a : aB.size ≤ 140737488351232 := by decide
theorem sz_b : bB.size ≤ 140737488351232 := by decide
theorem nm_a : nameB aB = true := by decide
theorem nm_b : nameB bB = true := by decide
theorem ok_num (n : Int) : OkS ([], n) := ⟨trivial, by simp, fun x h => by cases h⟩
theorem ok_one {s : ByteArray} {n : Int} (hs : nameB s = true) (hz : s.size ≤ 140737488351232) (hn : n ≠ 0) (hi : I64 n) (o : Int) : OkS ([(s, n)], o) := ⟨⟨hs, hn, fun y h => (by cases h), trivial⟩, by simp, fun x h => by
  have : x = (s, n) := by simpa using h
  subst this; exact ⟨hz, hi⟩⟩
theorem ok_two {n m : Int} (hn : n ≠ 0) (hm : m ≠ 0) (hi : I64 n) (hj : I64 m) (o : Int) : OkS ([(aB, n), (bB, m)], o) := ⟨⟨nm_a, hn, fun y h => (by
  have : y = (bB, m) := by simpa using h
  subst this; exact ab_lt), nm_b, hm, fun y h => (by cases h), trivial⟩, by simp, fun x h => by
  have : x = (aB, n) ∨ x = (bB, m) := by simpa using h
  rcases this with rfl | rfl
  · exact ⟨sz_a, hi⟩
  · exact ⟨sz_b, hj⟩⟩
/-- 2*(a-b)+3 - a -/
def t1B : ByteArray := ⟨#[50, 42, 40, 97, 45, 98, 41, 43, 51, 32, 45, 32, 97]⟩
/-- a*b -/
def t2B : ByteArray := ⟨#[97, 42, 98]⟩
theorem sz1 : t1B.size = 13 := rfl
theorem sz2 : t2B.size = 3 := rfl
theorem rd1 {w : World} {pb : Nat} (hzp : w.heap.size ≤ pb) : Rds 40 w t1B pb 0 0 ([(aB, 1), (bB, -2)], 3) 13 := by
  have hs : t1B.size ≤ 140737488351232 := by decide
  have fac2 : Rds 58 w t1B pb 0 0 ([], 2) 1 := fac_run hzp hs (by decide) (by decide) (by decide) (run_of_num (m := 1) hzp hs (by decide) (by decide) (by decide) (num_two w))
  have faca : Rds 58 w t1B pb 1 3 ([(aB, 1)], 0) 4 := fac_run hzp hs (by decide) (by decide) (by decide) (run_of_name (m := 1) hs (by decide) (by decide) (by decide))
  have facb : Rds 58 w t1B pb 1 5 ([(bB, 1)], 0) 6 := fac_run hzp hs (by decide) (by decide) (by decide) (run_of_name (m := 1) hs (by decide) (by decide) (by decide))
  have fac3 : Rds 58 w t1B pb 0 8 ([], 3) 9 := fac_run hzp hs (by decide) (by decide) (by decide) (run_of_num (m := 1) hzp hs (by decide) (by decide) (by decide) (num_three w))
  have face : Rds 58 w t1B pb 0 11 ([(aB, 1)], 0) 13 := fac_run hzp hs (by decide) (by decide) (by decide) (run_of_name (m := 1) hs (by decide) (by decide) (by decide))
  have oka : OkS ([(aB, 1)], 0) := ok_one nm_a (by decide) (by decide) (by unfold I64; decide) 0
  have okb : OkS ([(bB, 1)], 0) := ok_one nm_b (by decide) (by decide) (by unfold I64; decide) 0
  have pra : Rds 51 w t1B pb 1 3 ([(aB, 1)], 0) 4 := rds_some (wa := 0) (product_ok hzp hs (by decide) oka faca (.stop (by decide) rfl))
  have prb : Rds 51 w t1B pb 1 5 ([(bB, 1)], 0) 6 := rds_some (wa := 0) (product_ok hzp hs (by decide) okb facb (.stop (by decide) rfl))
  have pr3 : Rds 51 w t1B pb 0 8 ([], 3) 10 := rds_some (wa := 0) (product_ok hzp hs (by decide) (ok_num 3) fac3 (.stop (by decide) rfl))
  have pre : Rds 51 w t1B pb 0 11 ([(aB, 1)], 0) 13 := rds_some (wa := 0) (product_ok hzp hs (by decide) oka face (.stop (by decide) rfl))
  have s1 : Rds 40 w t1B pb 1 3 ([(aB, 1), (bB, -1)], 0) 6 := sum_ok hzp hs (by decide) oka pra (.less (u := ([(bB, 1)], 0)) (c := 6) (by decide) prb okb (by decide) (by decide) (by rw [e_neg, e1]; simp) (by rw [e_neg, e1]; exact .stop (by decide) (by decide) rfl rfl))
  have in1 : Rds 73 w t1B pb 1 3 ([(aB, 1), (bB, -1)], 0) 7 := inner_ok hzp hs (by decide) (by decide) s1
  have facp : Rds 58 w t1B pb 0 2 ([(aB, 1), (bB, -1)], 0) 7 := fac_par hzp hs (by decide) (by decide) (by decide) in1
  have okp : OkS ([(aB, 1), (bB, -1)], 0) := ok_two (by decide) (by decide) (by unfold I64; decide) (by unfold I64; decide) 0
  have pr1 : Rds 51 w t1B pb 0 0 ([(aB, 2), (bB, -2)], 0) 7 := rds_some (wa := 0) (product_ok hzp hs (by decide) (ok_num 2) fac2 (.sym (u := ([(aB, 1), (bB, -1)], 0)) (c := 7) (by decide) facp okp (by decide) (by decide) (by simp) rfl (by
    have : byS ([(aB, 1), (bB, -1)], 0) (([], 2) : Sm2).2 = ([(aB, 2), (bB, -2)], 0) := e2
    rw [this]; exact .stop (by decide) rfl)))
  have ok1 : OkS ([(aB, 2), (bB, -2)], 0) := ok_two (by decide) (by decide) (by unfold I64; decide) (by unfold I64; decide) 0
  refine sum_ok hzp hs (by decide) ok1 pr1 (.plus (u := ([], 3)) (c := 10) (by decide) pr3 (ok_num 3) (by decide) (by decide) (by rw [e3]; simp) ?_)
  rw [e3]
  refine .less (u := ([(aB, 1)], 0)) (c := 13) (by decide) pre oka (by decide) (by decide) (by rw [e_neg, e4]; simp) ?_
  rw [e_neg, e4]
  exact .stop (by decide) (by decide) rfl rfl
theorem rd2 {w : World} {pb : Nat} (hzp : w.heap.size ≤ pb) : RdsR 40 w t2B pb 0 0 none 1 := by
  have hs : t2B.size ≤ 140737488351232 := by decide
  have oka : OkS ([(aB, 1)], 0) := ok_one nm_a (by decide) (by decide) (by unfold I64; decide) 0
  have okb : OkS ([(bB, 1)], 0) := ok_one nm_b (by decide) (by decide) (by unfold I64; decide) 0
  have faca : Rds 58 w t2B pb 0 0 ([(aB, 1)], 0) 1 := fac_run hzp hs (by decide) (by decide) (by decide) (run_of_name (m := 1) hs (by decide) (by decide) (by decide))
  have facb : Rds 58 w t2B pb 0 2 ([(bB, 1)], 0) 3 := fac_run hzp hs (by decide) (by decide) (by decide) (run_of_name (m := 1) hs (by decide) (by decide) (by decide))
  exact sum_bad hzp hs (product_ok hzp hs (by decide) oka faca (.two (u := ([(bB, 1)], 0)) (c := 3) (by decide) facb okb (by decide) (by decide) (by simp) (by simp) rfl rfl))
theorem parse1 (w : World) : Calls Tryz.prog 14 #[.string t1B] w fun en w' => ∃ x, en = .returned (.tuple #[x, .int .i64 0, .int .i64 0]) ∧ (ofP [(aB, 1), (bB, -2)] 3).At (New w w') w' x ∧ Fr w w' :=
  parse_ok (b' := 13) (by decide) (by decide) (by decide) (ok_two (by decide) (by decide) (by unfold I64; decide) (by unfold I64; decide) 3) fun pb h => rd1 h
theorem parse2 (w : World) : Calls Tryz.prog 14 #[.string t2B] w fun en w' => en = .returned (.tuple #[.agg #[.slice none 0 0, .slice none 0 0, .int .i64 0], .int .i64 1, .int .i64 121]) ∧ Fr w w' :=
  parse_bad (wa := 1) fun pb h => rd2 h
def exL : Ln := ⟨[aB, bB], [1, -2], 3⟩
theorem ex_sm : exL.Sm := by
  refine ⟨⟨by decide, fun s h => ?_⟩, ⟨by decide, fun n h => ?_⟩, by unfold I64; decide⟩
  · have : s = aB ∨ s = bB := by simpa [exL] using h
    rcases this with rfl | rfl
    · exact sz_a
    · exact sz_b
  · have : n = 1 ∨ n = -2 := by simpa [exL] using h
    rcases this with rfl | rfl <;> (unfold I64; decide)
theorem ex_at (w : World) (o : Obj) (t t' : TypeId) : exL.At (fun _ => True) (((w.alloc o).alloc (.cells #[.string ⟨#[97]⟩, .string ⟨#[98]⟩] t)).alloc (.cells #[.int .i64 1, .int .i64 (-2)] t')) (.agg #[.slice (some ⟨w.heap.size + 1, 0, none⟩) 2 2, .slice (some ⟨w.heap.size + 1 + 1, 0, none⟩) 2 2, .int .i64 3]) := by
  refine ⟨some ⟨w.heap.size + 1, 0, none⟩, some ⟨w.heap.size + 1 + 1, 0, none⟩, 2, 2, rfl, fun _ => ⟨w.heap.size + 1, 0, rfl, by simp, fun i hi => ?_⟩, fun _ => ⟨w.heap.size + 1 + 1, 0, rfl, by simp, fun i hi => ?_⟩, fun _ => ⟨_, _, _, rfl, trivial⟩, fun _ => ⟨_, _, _, rfl, trivial⟩⟩
  · match i, hi with
    | 0, _ => simp [go_sem, exL, strv, aB]
    | 1, _ => simp [go_sem, exL, strv, bB]
  · match i, hi with
    | 0, _ => simp [go_sem, exL, intv]
    | 1, _ => simp [go_sem, exL, intv]
set_option maxHeartbeats 1600000 in
set_option maxRecDepth 100000 in
theorem alive_c : AliveC := by
  intro w
  have h1 : ∀ w, Calls Tryz.prog 14 #[.string t1B] w fun en w' => ∃ x, en = .returned (.tuple #[x, .int .i64 0, .int .i64 0]) ∧ exL.At (New w w') w' x ∧ Fr w w' := fun w => parse1 w
  have h2 := fun w => parse2 w
  go_enter Tryz.func6, Tryz.ntmps6
  go_wp2_with fail
  refine (h1 _).mono ?_
  rintro en w1 ⟨x, rfl, hx, hf1⟩
  obtain ⟨A, B, c, d, rfl, hx1, hx2, _⟩ := id hx
  have l1 : exL.ss.length = 2 := rfl
  have l2 : exL.ts.length = 2 := rfl
  have l3 : exL.off = 3 := rfl
  rw [l1, l2, l3] at hx
  simp only [l1, l2, l3]
  have HX1 := Lib.hid hx
  have HF1 := Lib.hid hf1
  clear hx hx1 hx2 h1 hf1
  go_wp2_with fail
  refine (h2 _).mono ?_
  rintro en w2 ⟨rfl, hf2⟩
  have HB := Lib.hid ((B3.new rfl).fr hf2 : B3 w2 w1.heap.size (.slice A 2 c) (.slice B 2 d) (.int .i64 3))
  have HX2 := Lib.hid ((HX1.out.fr ((Fr.refl w1).alloc _)).fr hf2)
  have HF2 := Lib.hid ((HF1.out.alloc _).call hf2)
  obtain ⟨c0, c1, c2, f0, f1, f2⟩ := HB.out
  have z1 := HB.out.lt
  clear hf2 h2
  go_wp2_with fail
  refine (same_at ex_sm ex_sm (((HX2.out.fr ((Fr.refl w2).alloc _)).fr ((Fr.refl _).alloc _)).fr ((Fr.refl _).alloc _)) (ex_at w2 _ _ _)).mono ?_
  rintro en w3 ⟨rfl, hf3⟩
  rw [eqL_refl]
  have HF3 := (((HF2.out.alloc _).alloc _).alloc _).call hf3
  go_wp2
  go_ret
  exact ⟨rfl, HF3⟩
end Go.Proofs.YtbnaakognnkhdaaGreatDoor
