/- How many bits a piece has, of the program. -/
import Derived.Test.YtdipnhghdajplaaGreatDoorP20
import Derived.Test.YtdipnhghdajplaaGreatDoorP05
import Derived.Test.YtdipnhghdajplaaGreatDoorShelf
import Derived.Shelf.Strings.SlTrimAscii
import Derived.Test.YtdipnhghdajplaaGreatDoorP19
import Derived.Deep.RegionHeld3
namespace Go.Proofs.YtdipnhghdajplaaGreatDoor
open Go.RowKit
set_option linter.unusedSimpArgs false
set_option linter.unusedVariables false
def litN (s : ByteArray) : Nat := if litB s then s.size else 0
def cut01x : ByteArray := ⟨#[48, 49, 120]⟩
theorem trim_empty (s : ByteArray) : (Lib.trimS s.data.toList cut01x.data.toList).isEmpty = litB s := by
 have hc : ∀ c : UInt8, cut01x.data.toList.contains c = litC c := fun c => by
   show [48, 49, 120].contains c = litC c
   rw [litC, Bool.or_assoc]
   simp only [List.contains_cons, List.contains_nil, Bool.or_false]
 have hd : ∀ l : List UInt8, (l.dropWhile (cut01x.data.toList.contains ·)).isEmpty = l.all litC := fun l => by
   induction l with
   | nil => rfl
   | cons x r ih =>
     rw [List.dropWhile_cons]
     simp only [List.all_cons]
     by_cases h : cut01x.data.toList.contains x = true
     · rw [if_pos h, ih, ← hc x, h, Bool.true_and]
     · rw [if_neg h, ← hc x, Bool.eq_false_iff.2 h, Bool.false_and]; rfl
 have hall : ∀ l : List UInt8, (Lib.trimRightS l cut01x.data.toList).all litC = l.all litC := fun l => by
   have key : ∀ l : List UInt8, (l.dropWhile (cut01x.data.toList.contains ·)).all litC = l.all litC := fun l => by
     induction l with
     | nil => rfl
     | cons x r ih =>
       rw [List.dropWhile_cons]
       by_cases h : cut01x.data.toList.contains x = true
       · rw [if_pos h, ih, List.all_cons, ← hc x, h, Bool.true_and]
       · rw [if_neg h]
   unfold Lib.trimRightS
   rw [List.all_reverse, key, List.all_reverse]
 unfold Lib.trimS Lib.trimLeftS
 rw [hd, hall]; rfl
theorem trim_any (s : ByteArray) (hs : s.size ≤ maxLen) (w : World) : Calls Tryz.prog 105 #[.string s, .string ⟨#[48, 49, 120]⟩] w fun e w' => (∃ r : ByteArray, e = .returned (.string r) ∧ r.data.toList.isEmpty = litB s) ∧ Fr w w' :=
 (Any.strings_Trim_laid Tryz.lays160 (by kernel_rfl) s cut01x w (Nat.le_trans hs (by decide)) (by decide) (ascii_of_all (by decide))).mono fun e w' ⟨he, hw⟩ => ⟨⟨_, he, trim_empty s⟩, hw⟩
theorem litN_true {s : ByteArray} (h : litB s = true) : litN s = s.size := by unfold litN; rw [if_pos h]
theorem litN_false {s : ByteArray} (h : litB s = false) : litN s = 0 := by unfold litN; rw [if_neg (by simp [h])]
set_option maxHeartbeats 6400000 in
set_option maxRecDepth 100000 in
theorem pieceBits_lit {w : World} {D : Ds} {v : Array Value} (hD : DescAt w D v) (fn fs : ByteArray) (Aa Bp Cs : Option Addr) (args : List Int) (ac bl bc2 cl cc2 : Nat) (hA : RowOf ArgS 2 w Aa args) (lit : ByteArray) (hlit : lit.size ≤ maxLen) (hi lo : Int) :
   Calls Tryz.prog 68 #[.agg v, .agg #[.string fn, .string fs, .slice Aa args.length ac, .slice Bp bl bc2, .slice Cs cl cc2], .agg #[.string lit, .int .i64 (-1), .int .i64 hi, .int .i64 lo]] w fun e w' => e = .returned (.int .i64 (litN lit : Int)) ∧ Fr w w' := by
 obtain ⟨s0, Fa, Ba, Ga, Ca, Ma, Ra, Ua, Xa, Ka, Na, Pa, fc, bc, gc, cc, mc, rc, uc, xc, kc, nl, nc, pc, rfl, h1, h2, h3, h4, h5, h6, h7, h8, h9⟩ := hD
 clear h1 h2 h3 h4 h5 h6 h7 h8 h9 hA
 have HT := Lib.hid (fun w => trim_any lit hlit w)
 have HF3 := Lib.hid (show Fr w (((w.alloc (.cells #[.string s0, .int .i64 D.order, .slice Fa D.files.length fc, .slice Ba D.als.length bc, .slice Ga D.nflags gc, .slice Ca D.cls.length cc, .slice Ma D.fms.length mc, .slice Ra D.rels.length rc, .slice Ua D.uses.length uc, .slice Xa D.rxs.length xc, .slice Ka D.mcs.length kc, .slice Na nl nc, .slice Pa D.regs.length pc] 33)).alloc (.cells #[.string fn, .string fs, .slice Aa args.length ac, .slice Bp bl bc2, .slice Cs cl cc2] 43)).alloc (.cells #[.string lit, .int .i64 (-1), .int .i64 hi, .int .i64 lo] 148)) from Fr.alloc (Fr.alloc (Fr.alloc (Fr.refl w) _) _) _)
 have HC0 := Lib.hid (show World.cell? (((w.alloc (.cells #[.string s0, .int .i64 D.order, .slice Fa D.files.length fc, .slice Ba D.als.length bc, .slice Ga D.nflags gc, .slice Ca D.cls.length cc, .slice Ma D.fms.length mc, .slice Ra D.rels.length rc, .slice Ua D.uses.length uc, .slice Xa D.rxs.length xc, .slice Ka D.mcs.length kc, .slice Na nl nc, .slice Pa D.regs.length pc] 33)).alloc (.cells #[.string fn, .string fs, .slice Aa args.length ac, .slice Bp bl bc2, .slice Cs cl cc2] 43)).alloc (.cells #[.string lit, .int .i64 (-1), .int .i64 hi, .int .i64 lo] 148)) ⟨w.heap.size + 1 + 1, 0, none⟩ = some (.string lit) from by have := BlkAt.alloc (w := ((w.alloc (.cells #[.string s0, .int .i64 D.order, .slice Fa D.files.length fc, .slice Ba D.als.length bc, .slice Ga D.nflags gc, .slice Ca D.cls.length cc, .slice Ma D.fms.length mc, .slice Ra D.rels.length rc, .slice Ua D.uses.length uc, .slice Xa D.rxs.length xc, .slice Ka D.mcs.length kc, .slice Na nl nc, .slice Pa D.regs.length pc] 33)).alloc (.cells #[.string fn, .string fs, .slice Aa args.length ac, .slice Bp bl bc2, .slice Cs cl cc2] 43))) (t := 148) (cs := #[.string lit, .int .i64 (-1), .int .i64 hi, .int .i64 lo]) 0 _ rfl; simpa using this)
 have hsz : lit.size ≤ 9223372036854775807 := Nat.le_trans hlit (by decide)
 clear hlit
 cases hl : litB lit with
 | false =>
   have HN := Lib.hid (litN_false hl)
   rw [hl] at HT
   clear hl
   go_enter Tryz.func68, Tryz.ntmps68
   go_wp2_with fail
   refine (HT.out _).mono ?_
   rintro e w4 ⟨⟨r, rfl, hr⟩, hf4⟩
   have hr : (!r.toList.isEmpty) = true := by rw [Lib.toList_data, hr]; rfl
   have HF4 := Lib.hid hf4
   clear hf4
   go_wp2
   go_ret
   exact ⟨ret_int (by rw [HN.out]; rfl), HF3.out.call HF4.out⟩
 | true =>
   have HN := Lib.hid (litN_true hl)
   rw [hl] at HT
   clear hl
   go_enter Tryz.func68, Tryz.ntmps68
   go_wp2_with fail
   refine (HT.out _).mono ?_
   rintro e w4 ⟨⟨r, rfl, hr⟩, hf4⟩
   have hr : (!r.toList.isEmpty) = false := by rw [Lib.toList_data, hr]; rfl
   have HF4 := Lib.hid hf4
   have c0 := hf4.get HC0.out
   clear hf4
   go_wp2
   go_ret
   exact ⟨ret_int (by rw [HN.out]), HF3.out.call HF4.out⟩
set_option maxHeartbeats 6400000 in
set_option maxRecDepth 100000 in
theorem pieceBits_no {w : World} {D : Ds} {v : Array Value} (hD : DescAt w D v) (fn fs : ByteArray) (Aa Bp Cs : Option Addr) (args : List Int) (ac bl bc2 cl cc2 : Nat) (hA : RowOf ArgS 2 w Aa args) (lit : ByteArray) (ar hi lo : Int) (ha : ar ≠ -1) (hp : plB ar args.length = false) :
   Calls Tryz.prog 68 #[.agg v, .agg #[.string fn, .string fs, .slice Aa args.length ac, .slice Bp bl bc2, .slice Cs cl cc2], .agg #[.string lit, .int .i64 ar, .int .i64 hi, .int .i64 lo]] w fun e w' => e = .returned (.int .i64 0) ∧ Fr w w' := by
 obtain ⟨s0, Fa, Ba, Ga, Ca, Ma, Ra, Ua, Xa, Ka, Na, Pa, fc, bc, gc, cc, mc, rc, uc, xc, kc, nl, nc, pc, rfl, h1, h2, h3, h4, h5, h6, h7, h8, h9⟩ := hD
 have HP := Lib.hid (fun A c w => hp ▸ argPlace_any ar A args.length c w)
 have hne : (ar == -1) = false := by simp [ha]
 clear h1 h2 h3 h4 h5 h6 h7 h8 h9 hA hp
 have HF3 := Lib.hid (show Fr w (((w.alloc (.cells #[.string s0, .int .i64 D.order, .slice Fa D.files.length fc, .slice Ba D.als.length bc, .slice Ga D.nflags gc, .slice Ca D.cls.length cc, .slice Ma D.fms.length mc, .slice Ra D.rels.length rc, .slice Ua D.uses.length uc, .slice Xa D.rxs.length xc, .slice Ka D.mcs.length kc, .slice Na nl nc, .slice Pa D.regs.length pc] 33)).alloc (.cells #[.string fn, .string fs, .slice Aa args.length ac, .slice Bp bl bc2, .slice Cs cl cc2] 43)).alloc (.cells #[.string lit, .int .i64 ar, .int .i64 hi, .int .i64 lo] 148)) from Fr.alloc (Fr.alloc (Fr.alloc (Fr.refl w) _) _) _)
 go_enter Tryz.func68, Tryz.ntmps68
 go_wp2
 go_quiet ((go_at_call 106; refine Calls.quiet_of_same (HP.out _ _ _)))
 go_wp2
 go_ret
 exact ⟨rfl, Fr.drewN HF3.out _⟩
set_option maxHeartbeats 6400000 in
set_option maxRecDepth 100000 in
theorem pieceBits_a0 {w : World} {D : Ds} {v : Array Value} (hD : DescAt w D v) (fn fs : ByteArray) (Aa Bp Cs : Option Addr) (args : List Int) (ac bl bc2 cl cc2 : Nat) (hA : RowOf ArgS 2 w Aa args) (lit : ByteArray) (hok : args.all (clsAtB D) = true) (k : Nat) (hk : k < args.length) (hi lo : Int) (q1 : lo < 0) :
   Calls Tryz.prog 68 #[.agg v, .agg #[.string fn, .string fs, .slice Aa args.length ac, .slice Bp bl bc2, .slice Cs cl cc2], .agg #[.string lit, .int .i64 (k : Int), .int .i64 hi, .int .i64 lo]] w fun e w' => e = .returned (.int .i64 (if 0 ≤ lo ∧ lo ≤ hi ∧ hi < bitsAt D args k then hi - lo + 1 else 0)) ∧ Fr w w' := by
 have HP := Lib.hid (fun A c w => (show plB (k : Int) args.length = true by simp [plB, hk]) ▸ argPlace_any (k : Int) A args.length c w)
 obtain ⟨c, e1, hc, _, e2, b1, b2⟩ := args_at hok hk
 rw [e2]
 obtain ⟨s0, Fa, Ba, Ga, Ca, Ma, Ra, Ua, Xa, Ka, Na, Pa, fc, bc, gc, cc, mc, rc, uc, xc, kc, nl, nc, pc, rfl, h1, h2, h3, h4, h5, h6, h7, h8, h9⟩ := hD
 obtain ⟨ba, oa, rfl, nm, g0, gw, g1⟩ := hA.at hk
 obtain ⟨bq, oc, rfl, m0, A6, k6, c0, w1, c1, w2, c2, w3, c3, w4, c4, w5, c5, u6, v6, c6, r6⟩ := h3.at hc
 rw [e1] at g1
 rw [Nat.mul_comm 2 k] at g0 g1
 rw [Nat.mul_comm 7 c] at c0 c1 c2 c3 c4 c5 c6
 have hki : (k : Int) < (args.length : Int) := by omega
 have hci : (c : Int) < (D.cls.length : Int) := by omega
 have zg := lt_of_cell g1
 have zc := lt_of_cell c3
 have hne : ((k : Int) == -1) = false := beq_eq_false_iff_ne.2 (by omega)
 generalize (D.cls[c]).bits = bt at *
 clear h1 h2 h3 h4 h5 h6 h7 h8 h9 hA e1 e2 g0 gw c0 c1 c2 c4 c5 c6 w1 w2 w3 w4 w5 u6 v6 r6 hok
 have HF3 := Lib.hid (show Fr w (((w.alloc (.cells #[.string s0, .int .i64 D.order, .slice Fa D.files.length fc, .slice Ba D.als.length bc, .slice Ga D.nflags gc, .slice (some ⟨bq, oc, none⟩) D.cls.length cc, .slice Ma D.fms.length mc, .slice Ra D.rels.length rc, .slice Ua D.uses.length uc, .slice Xa D.rxs.length xc, .slice Ka D.mcs.length kc, .slice Na nl nc, .slice Pa D.regs.length pc] 33)).alloc (.cells #[.string fn, .string fs, .slice (some ⟨ba, oa, none⟩) args.length ac, .slice Bp bl bc2, .slice Cs cl cc2] 43)).alloc (.cells #[.string lit, .int .i64 (k : Int), .int .i64 hi, .int .i64 lo] 148)) from Fr.alloc (Fr.alloc (Fr.alloc (Fr.refl w) _) _) _)
 have KP := Lib.hid (show BlkAt (((w.alloc (.cells #[.string s0, .int .i64 D.order, .slice Fa D.files.length fc, .slice Ba D.als.length bc, .slice Ga D.nflags gc, .slice (some ⟨bq, oc, none⟩) D.cls.length cc, .slice Ma D.fms.length mc, .slice Ra D.rels.length rc, .slice Ua D.uses.length uc, .slice Xa D.rxs.length xc, .slice Ka D.mcs.length kc, .slice Na nl nc, .slice Pa D.regs.length pc] 33)).alloc (.cells #[.string fn, .string fs, .slice (some ⟨ba, oa, none⟩) args.length ac, .slice Bp bl bc2, .slice Cs cl cc2] 43)).alloc (.cells #[.string lit, .int .i64 (k : Int), .int .i64 hi, .int .i64 lo] 148)) (w.heap.size + 1 + 1) [.string lit, .int .i64 (k : Int), .int .i64 hi, .int .i64 lo] from by have := BlkAt.alloc (w := ((w.alloc (.cells #[.string s0, .int .i64 D.order, .slice Fa D.files.length fc, .slice Ba D.als.length bc, .slice Ga D.nflags gc, .slice (some ⟨bq, oc, none⟩) D.cls.length cc, .slice Ma D.fms.length mc, .slice Ra D.rels.length rc, .slice Ua D.uses.length uc, .slice Xa D.rxs.length xc, .slice Ka D.mcs.length kc, .slice Na nl nc, .slice Pa D.regs.length pc] 33)).alloc (.cells #[.string fn, .string fs, .slice (some ⟨ba, oa, none⟩) args.length ac, .slice Bp bl bc2, .slice Cs cl cc2] 43))) (t := 148) (cs := #[.string lit, .int .i64 (k : Int), .int .i64 hi, .int .i64 lo]); simpa using this)
 have KF := Lib.hid (show BlkAt (((w.alloc (.cells #[.string s0, .int .i64 D.order, .slice Fa D.files.length fc, .slice Ba D.als.length bc, .slice Ga D.nflags gc, .slice (some ⟨bq, oc, none⟩) D.cls.length cc, .slice Ma D.fms.length mc, .slice Ra D.rels.length rc, .slice Ua D.uses.length uc, .slice Xa D.rxs.length xc, .slice Ka D.mcs.length kc, .slice Na nl nc, .slice Pa D.regs.length pc] 33)).alloc (.cells #[.string fn, .string fs, .slice (some ⟨ba, oa, none⟩) args.length ac, .slice Bp bl bc2, .slice Cs cl cc2] 43)).alloc (.cells #[.string lit, .int .i64 (k : Int), .int .i64 hi, .int .i64 lo] 148)) (w.heap.size + 1) [.string fn, .string fs, .slice (some ⟨ba, oa, none⟩) args.length ac, .slice Bp bl bc2, .slice Cs cl cc2] from BlkAt.fr (by have := BlkAt.alloc (w := (w.alloc (.cells #[.string s0, .int .i64 D.order, .slice Fa D.files.length fc, .slice Ba D.als.length bc, .slice Ga D.nflags gc, .slice (some ⟨bq, oc, none⟩) D.cls.length cc, .slice Ma D.fms.length mc, .slice Ra D.rels.length rc, .slice Ua D.uses.length uc, .slice Xa D.rxs.length xc, .slice Ka D.mcs.length kc, .slice Na nl nc, .slice Pa D.regs.length pc] 33))) (t := 43) (cs := #[.string fn, .string fs, .slice (some ⟨ba, oa, none⟩) args.length ac, .slice Bp bl bc2, .slice Cs cl cc2]); simpa using this) (Fr.alloc (Fr.refl _) _))
 have KD := Lib.hid (show BlkAt (((w.alloc (.cells #[.string s0, .int .i64 D.order, .slice Fa D.files.length fc, .slice Ba D.als.length bc, .slice Ga D.nflags gc, .slice (some ⟨bq, oc, none⟩) D.cls.length cc, .slice Ma D.fms.length mc, .slice Ra D.rels.length rc, .slice Ua D.uses.length uc, .slice Xa D.rxs.length xc, .slice Ka D.mcs.length kc, .slice Na nl nc, .slice Pa D.regs.length pc] 33)).alloc (.cells #[.string fn, .string fs, .slice (some ⟨ba, oa, none⟩) args.length ac, .slice Bp bl bc2, .slice Cs cl cc2] 43)).alloc (.cells #[.string lit, .int .i64 (k : Int), .int .i64 hi, .int .i64 lo] 148)) w.heap.size [.string s0, .int .i64 D.order, .slice Fa D.files.length fc, .slice Ba D.als.length bc, .slice Ga D.nflags gc, .slice (some ⟨bq, oc, none⟩) D.cls.length cc, .slice Ma D.fms.length mc, .slice Ra D.rels.length rc, .slice Ua D.uses.length uc, .slice Xa D.rxs.length xc, .slice Ka D.mcs.length kc, .slice Na nl nc, .slice Pa D.regs.length pc] from BlkAt.fr (by have := BlkAt.alloc (w := w) (t := 33) (cs := #[.string s0, .int .i64 D.order, .slice Fa D.files.length fc, .slice Ba D.als.length bc, .slice Ga D.nflags gc, .slice (some ⟨bq, oc, none⟩) D.cls.length cc, .slice Ma D.fms.length mc, .slice Ra D.rels.length rc, .slice Ua D.uses.length uc, .slice Xa D.rxs.length xc, .slice Ka D.mcs.length kc, .slice Na nl nc, .slice Pa D.regs.length pc]); simpa using this) (Fr.alloc (Fr.alloc (Fr.refl _) _) _))
 have HR := Lib.hid (show (if 0 ≤ lo ∧ lo ≤ hi ∧ hi < bt then hi - lo + 1 else 0) = 0 from if_neg (by omega))
 rw [HR.out]
 clear HR
 go_enter Tryz.func68, Tryz.ntmps68
 go_wp2_with fail
 generalize World.alloc (World.alloc (World.alloc w _) _) _ = W at *
 have p1 := KP.out 1 _ rfl; have p2 := KP.out 2 _ rfl; have p3 := KP.out 3 _ rfl; have f2 := KF.out 2 _ rfl; have d5 := KD.out 5 _ rfl; have e1 := HF3.out.get g1; have e3 := HF3.out.get c3
 have y1 := lt_of_cell p1; have y2 := lt_of_cell f2; have y3 := lt_of_cell d5; have y4 := lt_of_cell e1; have y5 := lt_of_cell e3
 clear g1 c3 zg zc
 go_quiet ((go_at_call 106; refine Calls.quiet_of_same (HP.out _ _ _)))
 go_wp2
 go_ret
 exact ⟨rfl, Fr.drewN HF3.out _⟩
set_option maxHeartbeats 6400000 in
set_option maxRecDepth 100000 in
theorem pieceBits_a1 {w : World} {D : Ds} {v : Array Value} (hD : DescAt w D v) (fn fs : ByteArray) (Aa Bp Cs : Option Addr) (args : List Int) (ac bl bc2 cl cc2 : Nat) (hA : RowOf ArgS 2 w Aa args) (lit : ByteArray) (hok : args.all (clsAtB D) = true) (k : Nat) (hk : k < args.length) (hi lo : Int) (q1 : ¬ lo < 0) (q2 : hi < lo) :
   Calls Tryz.prog 68 #[.agg v, .agg #[.string fn, .string fs, .slice Aa args.length ac, .slice Bp bl bc2, .slice Cs cl cc2], .agg #[.string lit, .int .i64 (k : Int), .int .i64 hi, .int .i64 lo]] w fun e w' => e = .returned (.int .i64 (if 0 ≤ lo ∧ lo ≤ hi ∧ hi < bitsAt D args k then hi - lo + 1 else 0)) ∧ Fr w w' := by
 have HP := Lib.hid (fun A c w => (show plB (k : Int) args.length = true by simp [plB, hk]) ▸ argPlace_any (k : Int) A args.length c w)
 obtain ⟨c, e1, hc, _, e2, b1, b2⟩ := args_at hok hk
 rw [e2]
 obtain ⟨s0, Fa, Ba, Ga, Ca, Ma, Ra, Ua, Xa, Ka, Na, Pa, fc, bc, gc, cc, mc, rc, uc, xc, kc, nl, nc, pc, rfl, h1, h2, h3, h4, h5, h6, h7, h8, h9⟩ := hD
 obtain ⟨ba, oa, rfl, nm, g0, gw, g1⟩ := hA.at hk
 obtain ⟨bq, oc, rfl, m0, A6, k6, c0, w1, c1, w2, c2, w3, c3, w4, c4, w5, c5, u6, v6, c6, r6⟩ := h3.at hc
 rw [e1] at g1
 rw [Nat.mul_comm 2 k] at g0 g1
 rw [Nat.mul_comm 7 c] at c0 c1 c2 c3 c4 c5 c6
 have hki : (k : Int) < (args.length : Int) := by omega
 have hci : (c : Int) < (D.cls.length : Int) := by omega
 have zg := lt_of_cell g1
 have zc := lt_of_cell c3
 have hne : ((k : Int) == -1) = false := beq_eq_false_iff_ne.2 (by omega)
 generalize (D.cls[c]).bits = bt at *
 clear h1 h2 h3 h4 h5 h6 h7 h8 h9 hA e1 e2 g0 gw c0 c1 c2 c4 c5 c6 w1 w2 w3 w4 w5 u6 v6 r6 hok
 have HF3 := Lib.hid (show Fr w (((w.alloc (.cells #[.string s0, .int .i64 D.order, .slice Fa D.files.length fc, .slice Ba D.als.length bc, .slice Ga D.nflags gc, .slice (some ⟨bq, oc, none⟩) D.cls.length cc, .slice Ma D.fms.length mc, .slice Ra D.rels.length rc, .slice Ua D.uses.length uc, .slice Xa D.rxs.length xc, .slice Ka D.mcs.length kc, .slice Na nl nc, .slice Pa D.regs.length pc] 33)).alloc (.cells #[.string fn, .string fs, .slice (some ⟨ba, oa, none⟩) args.length ac, .slice Bp bl bc2, .slice Cs cl cc2] 43)).alloc (.cells #[.string lit, .int .i64 (k : Int), .int .i64 hi, .int .i64 lo] 148)) from Fr.alloc (Fr.alloc (Fr.alloc (Fr.refl w) _) _) _)
 have KP := Lib.hid (show BlkAt (((w.alloc (.cells #[.string s0, .int .i64 D.order, .slice Fa D.files.length fc, .slice Ba D.als.length bc, .slice Ga D.nflags gc, .slice (some ⟨bq, oc, none⟩) D.cls.length cc, .slice Ma D.fms.length mc, .slice Ra D.rels.length rc, .slice Ua D.uses.length uc, .slice Xa D.rxs.length xc, .slice Ka D.mcs.length kc, .slice Na nl nc, .slice Pa D.regs.length pc] 33)).alloc (.cells #[.string fn, .string fs, .slice (some ⟨ba, oa, none⟩) args.length ac, .slice Bp bl bc2, .slice Cs cl cc2] 43)).alloc (.cells #[.string lit, .int .i64 (k : Int), .int .i64 hi, .int .i64 lo] 148)) (w.heap.size + 1 + 1) [.string lit, .int .i64 (k : Int), .int .i64 hi, .int .i64 lo] from by have := BlkAt.alloc (w := ((w.alloc (.cells #[.string s0, .int .i64 D.order, .slice Fa D.files.length fc, .slice Ba D.als.length bc, .slice Ga D.nflags gc, .slice (some ⟨bq, oc, none⟩) D.cls.length cc, .slice Ma D.fms.length mc, .slice Ra D.rels.length rc, .slice Ua D.uses.length uc, .slice Xa D.rxs.length xc, .slice Ka D.mcs.length kc, .slice Na nl nc, .slice Pa D.regs.length pc] 33)).alloc (.cells #[.string fn, .string fs, .slice (some ⟨ba, oa, none⟩) args.length ac, .slice Bp bl bc2, .slice Cs cl cc2] 43))) (t := 148) (cs := #[.string lit, .int .i64 (k : Int), .int .i64 hi, .int .i64 lo]); simpa using this)
 have KF := Lib.hid (show BlkAt (((w.alloc (.cells #[.string s0, .int .i64 D.order, .slice Fa D.files.length fc, .slice Ba D.als.length bc, .slice Ga D.nflags gc, .slice (some ⟨bq, oc, none⟩) D.cls.length cc, .slice Ma D.fms.length mc, .slice Ra D.rels.length rc, .slice Ua D.uses.length uc, .slice Xa D.rxs.length xc, .slice Ka D.mcs.length kc, .slice Na nl nc, .slice Pa D.regs.length pc] 33)).alloc (.cells #[.string fn, .string fs, .slice (some ⟨ba, oa, none⟩) args.length ac, .slice Bp bl bc2, .slice Cs cl cc2] 43)).alloc (.cells #[.string lit, .int .i64 (k : Int), .int .i64 hi, .int .i64 lo] 148)) (w.heap.size + 1) [.string fn, .string fs, .slice (some ⟨ba, oa, none⟩) args.length ac, .slice Bp bl bc2, .slice Cs cl cc2] from BlkAt.fr (by have := BlkAt.alloc (w := (w.alloc (.cells #[.string s0, .int .i64 D.order, .slice Fa D.files.length fc, .slice Ba D.als.length bc, .slice Ga D.nflags gc, .slice (some ⟨bq, oc, none⟩) D.cls.length cc, .slice Ma D.fms.length mc, .slice Ra D.rels.length rc, .slice Ua D.uses.length uc, .slice Xa D.rxs.length xc, .slice Ka D.mcs.length kc, .slice Na nl nc, .slice Pa D.regs.length pc] 33))) (t := 43) (cs := #[.string fn, .string fs, .slice (some ⟨ba, oa, none⟩) args.length ac, .slice Bp bl bc2, .slice Cs cl cc2]); simpa using this) (Fr.alloc (Fr.refl _) _))
 have KD := Lib.hid (show BlkAt (((w.alloc (.cells #[.string s0, .int .i64 D.order, .slice Fa D.files.length fc, .slice Ba D.als.length bc, .slice Ga D.nflags gc, .slice (some ⟨bq, oc, none⟩) D.cls.length cc, .slice Ma D.fms.length mc, .slice Ra D.rels.length rc, .slice Ua D.uses.length uc, .slice Xa D.rxs.length xc, .slice Ka D.mcs.length kc, .slice Na nl nc, .slice Pa D.regs.length pc] 33)).alloc (.cells #[.string fn, .string fs, .slice (some ⟨ba, oa, none⟩) args.length ac, .slice Bp bl bc2, .slice Cs cl cc2] 43)).alloc (.cells #[.string lit, .int .i64 (k : Int), .int .i64 hi, .int .i64 lo] 148)) w.heap.size [.string s0, .int .i64 D.order, .slice Fa D.files.length fc, .slice Ba D.als.length bc, .slice Ga D.nflags gc, .slice (some ⟨bq, oc, none⟩) D.cls.length cc, .slice Ma D.fms.length mc, .slice Ra D.rels.length rc, .slice Ua D.uses.length uc, .slice Xa D.rxs.length xc, .slice Ka D.mcs.length kc, .slice Na nl nc, .slice Pa D.regs.length pc] from BlkAt.fr (by have := BlkAt.alloc (w := w) (t := 33) (cs := #[.string s0, .int .i64 D.order, .slice Fa D.files.length fc, .slice Ba D.als.length bc, .slice Ga D.nflags gc, .slice (some ⟨bq, oc, none⟩) D.cls.length cc, .slice Ma D.fms.length mc, .slice Ra D.rels.length rc, .slice Ua D.uses.length uc, .slice Xa D.rxs.length xc, .slice Ka D.mcs.length kc, .slice Na nl nc, .slice Pa D.regs.length pc]); simpa using this) (Fr.alloc (Fr.alloc (Fr.refl _) _) _))
 have HR := Lib.hid (show (if 0 ≤ lo ∧ lo ≤ hi ∧ hi < bt then hi - lo + 1 else 0) = 0 from if_neg (by omega))
 rw [HR.out]
 clear HR
 have hd1 : decide (lo < 0) = false := by simp; omega
 have hd2 : decide (hi < lo) = true := by simp; omega
 clear q1 q2
 go_enter Tryz.func68, Tryz.ntmps68
 go_wp2_with fail
 generalize World.alloc (World.alloc (World.alloc w _) _) _ = W at *
 have p1 := KP.out 1 _ rfl; have p2 := KP.out 2 _ rfl; have p3 := KP.out 3 _ rfl; have f2 := KF.out 2 _ rfl; have d5 := KD.out 5 _ rfl; have e1 := HF3.out.get g1; have e3 := HF3.out.get c3
 have y1 := lt_of_cell p1; have y2 := lt_of_cell f2; have y3 := lt_of_cell d5; have y4 := lt_of_cell e1; have y5 := lt_of_cell e3
 clear g1 c3 zg zc
 go_quiet ((go_at_call 106; refine Calls.quiet_of_same (HP.out _ _ _)))
 go_wp2
 go_ret
 exact ⟨rfl, Fr.drewN HF3.out _⟩
set_option maxHeartbeats 6400000 in
set_option maxRecDepth 100000 in
theorem pieceBits_a2 {w : World} {D : Ds} {v : Array Value} (hD : DescAt w D v) (fn fs : ByteArray) (Aa Bp Cs : Option Addr) (args : List Int) (ac bl bc2 cl cc2 : Nat) (hA : RowOf ArgS 2 w Aa args) (lit : ByteArray) (hok : args.all (clsAtB D) = true) (k : Nat) (hk : k < args.length) (hi lo : Int) (q1 : ¬ lo < 0) (q2 : ¬ hi < lo) (q3 : hi < bitsAt D args k) :
   Calls Tryz.prog 68 #[.agg v, .agg #[.string fn, .string fs, .slice Aa args.length ac, .slice Bp bl bc2, .slice Cs cl cc2], .agg #[.string lit, .int .i64 (k : Int), .int .i64 hi, .int .i64 lo]] w fun e w' => e = .returned (.int .i64 (if 0 ≤ lo ∧ lo ≤ hi ∧ hi < bitsAt D args k then hi - lo + 1 else 0)) ∧ Fr w w' := by
 have HP := Lib.hid (fun A c w => (show plB (k : Int) args.length = true by simp [plB, hk]) ▸ argPlace_any (k : Int) A args.length c w)
 obtain ⟨c, e1, hc, _, e2, b1, b2⟩ := args_at hok hk
 rw [e2] at q3 ⊢
 obtain ⟨s0, Fa, Ba, Ga, Ca, Ma, Ra, Ua, Xa, Ka, Na, Pa, fc, bc, gc, cc, mc, rc, uc, xc, kc, nl, nc, pc, rfl, h1, h2, h3, h4, h5, h6, h7, h8, h9⟩ := hD
 obtain ⟨ba, oa, rfl, nm, g0, gw, g1⟩ := hA.at hk
 obtain ⟨bq, oc, rfl, m0, A6, k6, c0, w1, c1, w2, c2, w3, c3, w4, c4, w5, c5, u6, v6, c6, r6⟩ := h3.at hc
 rw [e1] at g1
 rw [Nat.mul_comm 2 k] at g0 g1
 rw [Nat.mul_comm 7 c] at c0 c1 c2 c3 c4 c5 c6
 have hki : (k : Int) < (args.length : Int) := by omega
 have hci : (c : Int) < (D.cls.length : Int) := by omega
 have zg := lt_of_cell g1
 have zc := lt_of_cell c3
 have hne : ((k : Int) == -1) = false := beq_eq_false_iff_ne.2 (by omega)
 generalize (D.cls[c]).bits = bt at *
 clear h1 h2 h3 h4 h5 h6 h7 h8 h9 hA e1 e2 g0 gw c0 c1 c2 c4 c5 c6 w1 w2 w3 w4 w5 u6 v6 r6 hok
 have HF3 := Lib.hid (show Fr w (((w.alloc (.cells #[.string s0, .int .i64 D.order, .slice Fa D.files.length fc, .slice Ba D.als.length bc, .slice Ga D.nflags gc, .slice (some ⟨bq, oc, none⟩) D.cls.length cc, .slice Ma D.fms.length mc, .slice Ra D.rels.length rc, .slice Ua D.uses.length uc, .slice Xa D.rxs.length xc, .slice Ka D.mcs.length kc, .slice Na nl nc, .slice Pa D.regs.length pc] 33)).alloc (.cells #[.string fn, .string fs, .slice (some ⟨ba, oa, none⟩) args.length ac, .slice Bp bl bc2, .slice Cs cl cc2] 43)).alloc (.cells #[.string lit, .int .i64 (k : Int), .int .i64 hi, .int .i64 lo] 148)) from Fr.alloc (Fr.alloc (Fr.alloc (Fr.refl w) _) _) _)
 have KP := Lib.hid (show BlkAt (((w.alloc (.cells #[.string s0, .int .i64 D.order, .slice Fa D.files.length fc, .slice Ba D.als.length bc, .slice Ga D.nflags gc, .slice (some ⟨bq, oc, none⟩) D.cls.length cc, .slice Ma D.fms.length mc, .slice Ra D.rels.length rc, .slice Ua D.uses.length uc, .slice Xa D.rxs.length xc, .slice Ka D.mcs.length kc, .slice Na nl nc, .slice Pa D.regs.length pc] 33)).alloc (.cells #[.string fn, .string fs, .slice (some ⟨ba, oa, none⟩) args.length ac, .slice Bp bl bc2, .slice Cs cl cc2] 43)).alloc (.cells #[.string lit, .int .i64 (k : Int), .int .i64 hi, .int .i64 lo] 148)) (w.heap.size + 1 + 1) [.string lit, .int .i64 (k : Int), .int .i64 hi, .int .i64 lo] from by have := BlkAt.alloc (w := ((w.alloc (.cells #[.string s0, .int .i64 D.order, .slice Fa D.files.length fc, .slice Ba D.als.length bc, .slice Ga D.nflags gc, .slice (some ⟨bq, oc, none⟩) D.cls.length cc, .slice Ma D.fms.length mc, .slice Ra D.rels.length rc, .slice Ua D.uses.length uc, .slice Xa D.rxs.length xc, .slice Ka D.mcs.length kc, .slice Na nl nc, .slice Pa D.regs.length pc] 33)).alloc (.cells #[.string fn, .string fs, .slice (some ⟨ba, oa, none⟩) args.length ac, .slice Bp bl bc2, .slice Cs cl cc2] 43))) (t := 148) (cs := #[.string lit, .int .i64 (k : Int), .int .i64 hi, .int .i64 lo]); simpa using this)
 have KF := Lib.hid (show BlkAt (((w.alloc (.cells #[.string s0, .int .i64 D.order, .slice Fa D.files.length fc, .slice Ba D.als.length bc, .slice Ga D.nflags gc, .slice (some ⟨bq, oc, none⟩) D.cls.length cc, .slice Ma D.fms.length mc, .slice Ra D.rels.length rc, .slice Ua D.uses.length uc, .slice Xa D.rxs.length xc, .slice Ka D.mcs.length kc, .slice Na nl nc, .slice Pa D.regs.length pc] 33)).alloc (.cells #[.string fn, .string fs, .slice (some ⟨ba, oa, none⟩) args.length ac, .slice Bp bl bc2, .slice Cs cl cc2] 43)).alloc (.cells #[.string lit, .int .i64 (k : Int), .int .i64 hi, .int .i64 lo] 148)) (w.heap.size + 1) [.string fn, .string fs, .slice (some ⟨ba, oa, none⟩) args.length ac, .slice Bp bl bc2, .slice Cs cl cc2] from BlkAt.fr (by have := BlkAt.alloc (w := (w.alloc (.cells #[.string s0, .int .i64 D.order, .slice Fa D.files.length fc, .slice Ba D.als.length bc, .slice Ga D.nflags gc, .slice (some ⟨bq, oc, none⟩) D.cls.length cc, .slice Ma D.fms.length mc, .slice Ra D.rels.length rc, .slice Ua D.uses.length uc, .slice Xa D.rxs.length xc, .slice Ka D.mcs.length kc, .slice Na nl nc, .slice Pa D.regs.length pc] 33))) (t := 43) (cs := #[.string fn, .string fs, .slice (some ⟨ba, oa, none⟩) args.length ac, .slice Bp bl bc2, .slice Cs cl cc2]); simpa using this) (Fr.alloc (Fr.refl _) _))
 have KD := Lib.hid (show BlkAt (((w.alloc (.cells #[.string s0, .int .i64 D.order, .slice Fa D.files.length fc, .slice Ba D.als.length bc, .slice Ga D.nflags gc, .slice (some ⟨bq, oc, none⟩) D.cls.length cc, .slice Ma D.fms.length mc, .slice Ra D.rels.length rc, .slice Ua D.uses.length uc, .slice Xa D.rxs.length xc, .slice Ka D.mcs.length kc, .slice Na nl nc, .slice Pa D.regs.length pc] 33)).alloc (.cells #[.string fn, .string fs, .slice (some ⟨ba, oa, none⟩) args.length ac, .slice Bp bl bc2, .slice Cs cl cc2] 43)).alloc (.cells #[.string lit, .int .i64 (k : Int), .int .i64 hi, .int .i64 lo] 148)) w.heap.size [.string s0, .int .i64 D.order, .slice Fa D.files.length fc, .slice Ba D.als.length bc, .slice Ga D.nflags gc, .slice (some ⟨bq, oc, none⟩) D.cls.length cc, .slice Ma D.fms.length mc, .slice Ra D.rels.length rc, .slice Ua D.uses.length uc, .slice Xa D.rxs.length xc, .slice Ka D.mcs.length kc, .slice Na nl nc, .slice Pa D.regs.length pc] from BlkAt.fr (by have := BlkAt.alloc (w := w) (t := 33) (cs := #[.string s0, .int .i64 D.order, .slice Fa D.files.length fc, .slice Ba D.als.length bc, .slice Ga D.nflags gc, .slice (some ⟨bq, oc, none⟩) D.cls.length cc, .slice Ma D.fms.length mc, .slice Ra D.rels.length rc, .slice Ua D.uses.length uc, .slice Xa D.rxs.length xc, .slice Ka D.mcs.length kc, .slice Na nl nc, .slice Pa D.regs.length pc]); simpa using this) (Fr.alloc (Fr.alloc (Fr.refl _) _) _))
 have HR := Lib.hid (show (if 0 ≤ lo ∧ lo ≤ hi ∧ hi < bt then hi - lo + 1 else 0) = hi - lo + 1 from if_pos (by omega))
 rw [HR.out]
 clear HR
 have q4 : ¬ bt ≤ hi := by omega
 go_enter Tryz.func68, Tryz.ntmps68
 go_wp2_with fail
 generalize World.alloc (World.alloc (World.alloc w _) _) _ = W at *
 have p1 := KP.out 1 _ rfl; have p2 := KP.out 2 _ rfl; have p3 := KP.out 3 _ rfl; have f2 := KF.out 2 _ rfl; have d5 := KD.out 5 _ rfl; have e1 := HF3.out.get g1; have e3 := HF3.out.get c3
 have y1 := lt_of_cell p1; have y2 := lt_of_cell f2; have y3 := lt_of_cell d5; have y4 := lt_of_cell e1; have y5 := lt_of_cell e3
 clear g1 c3 zg zc
 go_quiet ((go_at_call 106; refine Calls.quiet_of_same (HP.out _ _ _)))
 go_wp2
 go_ret
 exact ⟨ret_int (by omega), Fr.drewN HF3.out _⟩
set_option maxHeartbeats 6400000 in
set_option maxRecDepth 100000 in
theorem pieceBits_a3 {w : World} {D : Ds} {v : Array Value} (hD : DescAt w D v) (fn fs : ByteArray) (Aa Bp Cs : Option Addr) (args : List Int) (ac bl bc2 cl cc2 : Nat) (hA : RowOf ArgS 2 w Aa args) (lit : ByteArray) (hok : args.all (clsAtB D) = true) (k : Nat) (hk : k < args.length) (hi lo : Int) (q1 : ¬ lo < 0) (q2 : ¬ hi < lo) (q3 : ¬ hi < bitsAt D args k) :
   Calls Tryz.prog 68 #[.agg v, .agg #[.string fn, .string fs, .slice Aa args.length ac, .slice Bp bl bc2, .slice Cs cl cc2], .agg #[.string lit, .int .i64 (k : Int), .int .i64 hi, .int .i64 lo]] w fun e w' => e = .returned (.int .i64 (if 0 ≤ lo ∧ lo ≤ hi ∧ hi < bitsAt D args k then hi - lo + 1 else 0)) ∧ Fr w w' := by
 have HP := Lib.hid (fun A c w => (show plB (k : Int) args.length = true by simp [plB, hk]) ▸ argPlace_any (k : Int) A args.length c w)
 obtain ⟨c, e1, hc, _, e2, b1, b2⟩ := args_at hok hk
 rw [e2] at q3 ⊢
 obtain ⟨s0, Fa, Ba, Ga, Ca, Ma, Ra, Ua, Xa, Ka, Na, Pa, fc, bc, gc, cc, mc, rc, uc, xc, kc, nl, nc, pc, rfl, h1, h2, h3, h4, h5, h6, h7, h8, h9⟩ := hD
 obtain ⟨ba, oa, rfl, nm, g0, gw, g1⟩ := hA.at hk
 obtain ⟨bq, oc, rfl, m0, A6, k6, c0, w1, c1, w2, c2, w3, c3, w4, c4, w5, c5, u6, v6, c6, r6⟩ := h3.at hc
 rw [e1] at g1
 rw [Nat.mul_comm 2 k] at g0 g1
 rw [Nat.mul_comm 7 c] at c0 c1 c2 c3 c4 c5 c6
 have hki : (k : Int) < (args.length : Int) := by omega
 have hci : (c : Int) < (D.cls.length : Int) := by omega
 have zg := lt_of_cell g1
 have zc := lt_of_cell c3
 have hne : ((k : Int) == -1) = false := beq_eq_false_iff_ne.2 (by omega)
 generalize (D.cls[c]).bits = bt at *
 clear h1 h2 h3 h4 h5 h6 h7 h8 h9 hA e1 e2 g0 gw c0 c1 c2 c4 c5 c6 w1 w2 w3 w4 w5 u6 v6 r6 hok
 have HF3 := Lib.hid (show Fr w (((w.alloc (.cells #[.string s0, .int .i64 D.order, .slice Fa D.files.length fc, .slice Ba D.als.length bc, .slice Ga D.nflags gc, .slice (some ⟨bq, oc, none⟩) D.cls.length cc, .slice Ma D.fms.length mc, .slice Ra D.rels.length rc, .slice Ua D.uses.length uc, .slice Xa D.rxs.length xc, .slice Ka D.mcs.length kc, .slice Na nl nc, .slice Pa D.regs.length pc] 33)).alloc (.cells #[.string fn, .string fs, .slice (some ⟨ba, oa, none⟩) args.length ac, .slice Bp bl bc2, .slice Cs cl cc2] 43)).alloc (.cells #[.string lit, .int .i64 (k : Int), .int .i64 hi, .int .i64 lo] 148)) from Fr.alloc (Fr.alloc (Fr.alloc (Fr.refl w) _) _) _)
 have KP := Lib.hid (show BlkAt (((w.alloc (.cells #[.string s0, .int .i64 D.order, .slice Fa D.files.length fc, .slice Ba D.als.length bc, .slice Ga D.nflags gc, .slice (some ⟨bq, oc, none⟩) D.cls.length cc, .slice Ma D.fms.length mc, .slice Ra D.rels.length rc, .slice Ua D.uses.length uc, .slice Xa D.rxs.length xc, .slice Ka D.mcs.length kc, .slice Na nl nc, .slice Pa D.regs.length pc] 33)).alloc (.cells #[.string fn, .string fs, .slice (some ⟨ba, oa, none⟩) args.length ac, .slice Bp bl bc2, .slice Cs cl cc2] 43)).alloc (.cells #[.string lit, .int .i64 (k : Int), .int .i64 hi, .int .i64 lo] 148)) (w.heap.size + 1 + 1) [.string lit, .int .i64 (k : Int), .int .i64 hi, .int .i64 lo] from by have := BlkAt.alloc (w := ((w.alloc (.cells #[.string s0, .int .i64 D.order, .slice Fa D.files.length fc, .slice Ba D.als.length bc, .slice Ga D.nflags gc, .slice (some ⟨bq, oc, none⟩) D.cls.length cc, .slice Ma D.fms.length mc, .slice Ra D.rels.length rc, .slice Ua D.uses.length uc, .slice Xa D.rxs.length xc, .slice Ka D.mcs.length kc, .slice Na nl nc, .slice Pa D.regs.length pc] 33)).alloc (.cells #[.string fn, .string fs, .slice (some ⟨ba, oa, none⟩) args.length ac, .slice Bp bl bc2, .slice Cs cl cc2] 43))) (t := 148) (cs := #[.string lit, .int .i64 (k : Int), .int .i64 hi, .int .i64 lo]); simpa using this)
 have KF := Lib.hid (show BlkAt (((w.alloc (.cells #[.string s0, .int .i64 D.order, .slice Fa D.files.length fc, .slice Ba D.als.length bc, .slice Ga D.nflags gc, .slice (some ⟨bq, oc, none⟩) D.cls.length cc, .slice Ma D.fms.length mc, .slice Ra D.rels.length rc, .slice Ua D.uses.length uc, .slice Xa D.rxs.length xc, .slice Ka D.mcs.length kc, .slice Na nl nc, .slice Pa D.regs.length pc] 33)).alloc (.cells #[.string fn, .string fs, .slice (some ⟨ba, oa, none⟩) args.length ac, .slice Bp bl bc2, .slice Cs cl cc2] 43)).alloc (.cells #[.string lit, .int .i64 (k : Int), .int .i64 hi, .int .i64 lo] 148)) (w.heap.size + 1) [.string fn, .string fs, .slice (some ⟨ba, oa, none⟩) args.length ac, .slice Bp bl bc2, .slice Cs cl cc2] from BlkAt.fr (by have := BlkAt.alloc (w := (w.alloc (.cells #[.string s0, .int .i64 D.order, .slice Fa D.files.length fc, .slice Ba D.als.length bc, .slice Ga D.nflags gc, .slice (some ⟨bq, oc, none⟩) D.cls.length cc, .slice Ma D.fms.length mc, .slice Ra D.rels.length rc, .slice Ua D.uses.length uc, .slice Xa D.rxs.length xc, .slice Ka D.mcs.length kc, .slice Na nl nc, .slice Pa D.regs.length pc] 33))) (t := 43) (cs := #[.string fn, .string fs, .slice (some ⟨ba, oa, none⟩) args.length ac, .slice Bp bl bc2, .slice Cs cl cc2]); simpa using this) (Fr.alloc (Fr.refl _) _))
 have KD := Lib.hid (show BlkAt (((w.alloc (.cells #[.string s0, .int .i64 D.order, .slice Fa D.files.length fc, .slice Ba D.als.length bc, .slice Ga D.nflags gc, .slice (some ⟨bq, oc, none⟩) D.cls.length cc, .slice Ma D.fms.length mc, .slice Ra D.rels.length rc, .slice Ua D.uses.length uc, .slice Xa D.rxs.length xc, .slice Ka D.mcs.length kc, .slice Na nl nc, .slice Pa D.regs.length pc] 33)).alloc (.cells #[.string fn, .string fs, .slice (some ⟨ba, oa, none⟩) args.length ac, .slice Bp bl bc2, .slice Cs cl cc2] 43)).alloc (.cells #[.string lit, .int .i64 (k : Int), .int .i64 hi, .int .i64 lo] 148)) w.heap.size [.string s0, .int .i64 D.order, .slice Fa D.files.length fc, .slice Ba D.als.length bc, .slice Ga D.nflags gc, .slice (some ⟨bq, oc, none⟩) D.cls.length cc, .slice Ma D.fms.length mc, .slice Ra D.rels.length rc, .slice Ua D.uses.length uc, .slice Xa D.rxs.length xc, .slice Ka D.mcs.length kc, .slice Na nl nc, .slice Pa D.regs.length pc] from BlkAt.fr (by have := BlkAt.alloc (w := w) (t := 33) (cs := #[.string s0, .int .i64 D.order, .slice Fa D.files.length fc, .slice Ba D.als.length bc, .slice Ga D.nflags gc, .slice (some ⟨bq, oc, none⟩) D.cls.length cc, .slice Ma D.fms.length mc, .slice Ra D.rels.length rc, .slice Ua D.uses.length uc, .slice Xa D.rxs.length xc, .slice Ka D.mcs.length kc, .slice Na nl nc, .slice Pa D.regs.length pc]); simpa using this) (Fr.alloc (Fr.alloc (Fr.refl _) _) _))
 have HR := Lib.hid (show (if 0 ≤ lo ∧ lo ≤ hi ∧ hi < bt then hi - lo + 1 else 0) = 0 from if_neg (by omega))
 rw [HR.out]
 clear HR
 have q4 : bt ≤ hi := by omega
 go_enter Tryz.func68, Tryz.ntmps68
 go_wp2_with fail
 generalize World.alloc (World.alloc (World.alloc w _) _) _ = W at *
 have p1 := KP.out 1 _ rfl; have p2 := KP.out 2 _ rfl; have p3 := KP.out 3 _ rfl; have f2 := KF.out 2 _ rfl; have d5 := KD.out 5 _ rfl; have e1 := HF3.out.get g1; have e3 := HF3.out.get c3
 have y1 := lt_of_cell p1; have y2 := lt_of_cell f2; have y3 := lt_of_cell d5; have y4 := lt_of_cell e1; have y5 := lt_of_cell e3
 clear g1 c3 zg zc
 go_quiet ((go_at_call 106; refine Calls.quiet_of_same (HP.out _ _ _)))
 go_wp2
 go_ret
 exact ⟨rfl, Fr.drewN HF3.out _⟩
theorem pieceBits_any {w : World} {D : Ds} {v : Array Value} (hD : DescAt w D v) (fn fs : ByteArray) (Aa Bp Cs : Option Addr) (args : List Int) (ac bl bc2 cl cc2 : Nat) (hA : RowOf ArgS 2 w Aa args) (lit : ByteArray) (hlit : lit.size ≤ maxLen) (hok : args.all (clsAtB D) = true) (ar hi lo : Int) :
   Calls Tryz.prog 68 #[.agg v, .agg #[.string fn, .string fs, .slice Aa args.length ac, .slice Bp bl bc2, .slice Cs cl cc2], .agg #[.string lit, .int .i64 ar, .int .i64 hi, .int .i64 lo]] w fun e w' => e = .returned (.int .i64 (pcN D args ⟨lit, ar, hi, lo⟩ : Int)) ∧ Fr w w' := by
 by_cases ha : ar = -1
 · subst ha
   have e : pcN D args ⟨lit, -1, hi, lo⟩ = litN lit := by unfold pcN litN; rw [if_pos rfl]
   rw [e]
   exact pieceBits_lit hD fn fs Aa Bp Cs args ac bl bc2 cl cc2 hA lit hlit hi lo
 · cases hp : plB ar args.length with
   | false =>
     have e : pcN D args ⟨lit, ar, hi, lo⟩ = 0 := by unfold pcN; rw [if_neg ha, hp]; simp
     rw [e]
     exact pieceBits_no hD fn fs Aa Bp Cs args ac bl bc2 cl cc2 hA lit ar hi lo ha hp
   | true =>
     obtain ⟨k, rfl, hk⟩ := plB_ex hp
     have e : (pcN D args ⟨lit, (k : Int), hi, lo⟩ : Int) = if 0 ≤ lo ∧ lo ≤ hi ∧ hi < bitsAt D args k then hi - lo + 1 else 0 := by
       unfold pcN
       rw [if_neg ha]
       simp only [hp, Bool.true_and, Int.toNat_natCast]
       by_cases q : 0 ≤ lo ∧ lo ≤ hi ∧ hi < bitsAt D args k
       · rw [if_pos q, if_pos (by simp [q])]; omega
       · rw [if_neg q, if_neg (by simpa using q)]; rfl
     rw [e]
     by_cases q1 : lo < 0
     · exact pieceBits_a0 hD fn fs Aa Bp Cs args ac bl bc2 cl cc2 hA lit hok k hk hi lo q1
     · by_cases q2 : hi < lo
       · exact pieceBits_a1 hD fn fs Aa Bp Cs args ac bl bc2 cl cc2 hA lit hok k hk hi lo q1 q2
       · by_cases q3 : hi < bitsAt D args k
         · exact pieceBits_a2 hD fn fs Aa Bp Cs args ac bl bc2 cl cc2 hA lit hok k hk hi lo q1 q2 q3
         · exact pieceBits_a3 hD fn fs Aa Bp Cs args ac bl bc2 cl cc2 hA lit hok k hk hi lo q1 q2 q3
theorem mask_wrap (lo n : Nat) (h2 : lo + n ≤ 64) : IntKind.u64.wrap ((lowI n : Int) * 2 ^ lo) = ((lowI n * 2 ^ lo : Nat) : Int) := by
 have h1 := low_lt n
 have h3 := Nat.two_pow_pos lo
 have h4 : lowI n * 2 ^ lo < 18446744073709551616 := by
   calc lowI n * 2 ^ lo < 2 ^ n * 2 ^ lo := Nat.mul_lt_mul_of_pos_right h1 h3
     _ = 2 ^ (n + lo) := by rw [Nat.pow_add]
     _ ≤ 2 ^ 64 := Nat.pow_le_pow_right (by decide) (by omega)
     _ = 18446744073709551616 := by decide
 have e : ((lowI n : Int) * 2 ^ lo) = ((lowI n * 2 ^ lo : Nat) : Int) := by simp
 rw [e]
 generalize lowI n * 2 ^ lo = z at *
 simp [IntKind.wrap, IntKind.bits, IntKind.signed]
 omega
set_option maxHeartbeats 3200000 in
theorem pieceMask_any (lit : ByteArray) (ar hi : Int) (lo n : Nat) (hh : hi = ((lo + n : Nat) : Int) - 1) (h1 : 1 ≤ n) (h2 : lo + n ≤ 64) (w : World) :
   Calls Tryz.prog 69 #[.agg #[.string lit, .int .i64 ar, .int .i64 hi, .int .i64 (lo : Int)]] w fun e w' => e = .returned (.int .u64 ((lowI n * 2 ^ lo : Nat) : Int)) ∧ Fr w w' := by
 have HL := Lib.hid (fun (x : Int) (hx : x = (n : Int)) (w : World) => hx ▸ lowest_any n h1 (by omega) w)
 have HW := Lib.hid (mask_wrap lo n h2)
 have b1 : 0 ≤ hi := by omega
 have b2 : hi ≤ 63 := by omega
 have b3 : (lo : Int) ≤ hi := by omega
 have b4 : hi - (lo : Int) + 1 = (n : Int) := by omega
 have b5 : lo ≤ 63 := by omega
 have H4 := Lib.hid b4
 clear hh h1 h2 b4
 go_enter Tryz.func69, Tryz.ntmps69
 go_wp2
 go_quiet ((go_at_call 70; refine Calls.quiet_of_same ((HL.out _ (by have := H4.out; omega) _).mono fun _ _ h => ⟨h.1, h.2.symm⟩)))
 go_wp2
 go_ret
 refine ⟨ret_int ?_, Fr.drewN (Fr.alloc (Fr.refl w) _) _⟩
 exact HW.out
def patR (D : Ds) (args : List Int) (s : Option (Nat × List Nat)) : Nat := match s with
 | none => 0
 | some (b, seen) => if fullB D args seen && (decide (b % 8 = 0) && decide (b ≤ 120)) then b else 0
theorem patN_r {D : Ds} {args : List Int} {pcs : List Pc} (ho : opsB D args = true) : patN D args pcs = patR D args (pcs.foldl (patF D args) pat0) := by unfold patN patR; rw [if_pos ho]; rfl
theorem patR_none (D : Ds) (args : List Int) : patR D args none = 0 := rfl
def u64v (x : Nat) : Value := .int .u64 (x : Int)
theorem u64v_get {seen : List Nat} {k : Nat} (hk : k < seen.length) : (seen.map u64v)[k]? = some (.int .u64 (seen.getD k 0 : Int)) := by
 rw [List.getElem?_map, List.getElem?_eq_getElem hk]
 simp [u64v, List.getD_eq_getElem?_getD, List.getElem?_eq_getElem hk]
def RelP6 (D : Ds) (args : List Int) (pcs : List Pc) (w : World) (sq : Nat) (dv fv : List Value) (i bv : Value) (wr : World) : Prop := ∃ (j b : Nat) (seen : List Nat), j ≤ pcs.length ∧ i = .int .i64 (j : Int) ∧ bv = .int .i64 (b : Int) ∧ Fr w wr ∧
 BlkAt wr w.heap.size dv ∧ BlkAt wr (w.heap.size + 1) fv ∧ BlkAt wr sq (seen.map u64v) ∧ (∀ k, wr.frozen? ⟨sq, k, none⟩ = false) ∧ (pcs.take j).foldl (patF D args) pat0 = some (b, seen)
def RelP7 (D : Ds) (args : List Int) (w wl : World) (sq : Nat) (dv : List Value) (seen : List Nat) (i : Value) (wx : World) : Prop := ∃ n : Nat, n ≤ args.length ∧ i = .int .i64 (n : Int) ∧ Fr wl wx ∧ (List.range n).all (fun i => decide (seen.getD i 0 = lowI (bitsAt D args i).toNat)) = true
set_option maxHeartbeats 12800000 in
set_option maxRecDepth 100000 in
theorem pat_no {w : World} {D : Ds} {v : Array Value} (hD : DescAt w D v) (fn fs : ByteArray) (Aa Bp Cs : Option Addr) (args : List Int) (pcs : List Pc) (ac bc2 cl cc2 : Nat) (hA : RowOf ArgS 2 w Aa args) (hP : RowOf PcAt 4 w Bp pcs) (hL : Light pcs) (ho : opsB D args = false):
   Calls Tryz.prog 42 #[.agg v, .agg #[.string fn, .string fs, .slice Aa args.length ac, .slice Bp pcs.length bc2, .slice Cs cl cc2]] w fun e w' => e = .returned (.int .i64 (0 : Int)) ∧ Fr w w' := by
 have HO := Lib.hid (operandsRight_any hD fn fs Aa Bp Cs args ac pcs.length bc2 cl cc2 hA)
 rw [show (decide (args.length ≤ 6) && args.all (clsAtB D)) = false from ho] at HO
 have HD := Lib.hid hD
 obtain ⟨s0, Fa, Ba, Ga, Ca, Ma, Ra, Ua, Xa, Ka, Na, Pa, fc, bc, gc, cc, mc, rc, uc, xc, kc, nl, nc, pc, rfl, h1, h2, h3, h4, h5, h6, h7, h8, h9⟩ := hD
 have HOF := Lib.hid (fun (w1 : World) (k : Fr w w1) => operandsRight_any (HD.out.fr k) fn fs Aa Bp Cs args ac pcs.length bc2 cl cc2 (hA.fr fun _ _ _ x => x.fr k))
 rw [show (decide (args.length ≤ 6) && args.all (clsAtB D)) = false from ho] at HOF
 have HF0 := Lib.hid (show Fr w ((w.alloc (.cells #[.string s0, .int .i64 D.order, .slice Fa D.files.length fc, .slice Ba D.als.length bc, .slice Ga D.nflags gc, .slice Ca D.cls.length cc, .slice Ma D.fms.length mc, .slice Ra D.rels.length rc, .slice Ua D.uses.length uc, .slice Xa D.rxs.length xc, .slice Ka D.mcs.length kc, .slice Na nl nc, .slice Pa D.regs.length pc] 33)).alloc (.cells #[.string fn, .string fs, .slice Aa args.length ac, .slice Bp pcs.length bc2, .slice Cs cl cc2] 43)) from Fr.alloc (Fr.alloc (Fr.refl w) _) _)
 clear h1 h2 h3 h4 h5 h6 h7 h8 h9 hA hP hL HO ho
 go_enter Tryz.func42, Tryz.ntmps42
 go_wp2_with fail
 refine (HOF.out _ HF0.out).mono ?_
 rintro e w4 ⟨rfl, hf4⟩
 have HF4 := Lib.hid (HF0.out.call hf4)
 clear hf4
 go_wp2
 go_ret
 exact ⟨rfl, HF4.out⟩
set_option maxHeartbeats 12800000 in
set_option maxRecDepth 100000 in
theorem pat_yes {w : World} {D : Ds} {v : Array Value} (hD : DescAt w D v) (fn fs : ByteArray) (Aa Bp Cs : Option Addr) (args : List Int) (pcs : List Pc) (ac bc2 cl cc2 : Nat) (hA : RowOf ArgS 2 w Aa args) (hP : RowOf PcAt 4 w Bp pcs) (hL : Light pcs) (ho : opsB D args = true):
   Calls Tryz.prog 42 #[.agg v, .agg #[.string fn, .string fs, .slice Aa args.length ac, .slice Bp pcs.length bc2, .slice Cs cl cc2]] w fun e w' => e = .returned (.int .i64 (patN D args pcs : Int)) ∧ Fr w w' := by
 have ho2 := ho
 unfold opsB at ho2
 rw [Bool.and_eq_true] at ho2
 have hok : args.all (clsAtB D) = true := ho2.2
 have hl6 : args.length ≤ 6 := of_decide_eq_true ho2.1
 clear ho2
 have HD := Lib.hid hD
 have HPR := Lib.hid hP
 have HAR := Lib.hid hA
 have HLT := Lib.hid hL
 have HOK := Lib.hid hok
 have HPN := Lib.hid (patN_r (pcs := pcs) ho)
 obtain ⟨s0, Fa, Ba, Ga, Ca, Ma, Ra, Ua, Xa, Ka, Na, Pa, fc, bc, gc, cc, mc, rc, uc, xc, kc, nl, nc, pc, rfl, h1, h2, h3, h4, h5, h6, h7, h8, h9⟩ := hD
 have HCL := Lib.hid h3
 have HOF := Lib.hid (fun (w1 : World) (k : Fr w w1) => operandsRight_any (HD.out.fr k) fn fs Aa Bp Cs args ac pcs.length bc2 cl cc2 (hA.fr fun _ _ _ x => x.fr k))
 rw [show (decide (args.length ≤ 6) && args.all (clsAtB D)) = true from ho] at HOF
 have hpl : pcs.length ≤ 1048576 := hL.many
 have HF0 := Lib.hid (show Fr w ((w.alloc (.cells #[.string s0, .int .i64 D.order, .slice Fa D.files.length fc, .slice Ba D.als.length bc, .slice Ga D.nflags gc, .slice Ca D.cls.length cc, .slice Ma D.fms.length mc, .slice Ra D.rels.length rc, .slice Ua D.uses.length uc, .slice Xa D.rxs.length xc, .slice Ka D.mcs.length kc, .slice Na nl nc, .slice Pa D.regs.length pc] 33)).alloc (.cells #[.string fn, .string fs, .slice Aa args.length ac, .slice Bp pcs.length bc2, .slice Cs cl cc2] 43)) from Fr.alloc (Fr.alloc (Fr.refl w) _) _)
 have KF := Lib.hid (show BlkAt ((w.alloc (.cells #[.string s0, .int .i64 D.order, .slice Fa D.files.length fc, .slice Ba D.als.length bc, .slice Ga D.nflags gc, .slice Ca D.cls.length cc, .slice Ma D.fms.length mc, .slice Ra D.rels.length rc, .slice Ua D.uses.length uc, .slice Xa D.rxs.length xc, .slice Ka D.mcs.length kc, .slice Na nl nc, .slice Pa D.regs.length pc] 33)).alloc (.cells #[.string fn, .string fs, .slice Aa args.length ac, .slice Bp pcs.length bc2, .slice Cs cl cc2] 43)) (w.heap.size + 1) [.string fn, .string fs, .slice Aa args.length ac, .slice Bp pcs.length bc2, .slice Cs cl cc2] from by have := BlkAt.alloc (w := (w.alloc (.cells #[.string s0, .int .i64 D.order, .slice Fa D.files.length fc, .slice Ba D.als.length bc, .slice Ga D.nflags gc, .slice Ca D.cls.length cc, .slice Ma D.fms.length mc, .slice Ra D.rels.length rc, .slice Ua D.uses.length uc, .slice Xa D.rxs.length xc, .slice Ka D.mcs.length kc, .slice Na nl nc, .slice Pa D.regs.length pc] 33))) (t := 43) (cs := #[.string fn, .string fs, .slice Aa args.length ac, .slice Bp pcs.length bc2, .slice Cs cl cc2]); simpa using this)
 have KD := Lib.hid (show BlkAt ((w.alloc (.cells #[.string s0, .int .i64 D.order, .slice Fa D.files.length fc, .slice Ba D.als.length bc, .slice Ga D.nflags gc, .slice Ca D.cls.length cc, .slice Ma D.fms.length mc, .slice Ra D.rels.length rc, .slice Ua D.uses.length uc, .slice Xa D.rxs.length xc, .slice Ka D.mcs.length kc, .slice Na nl nc, .slice Pa D.regs.length pc] 33)).alloc (.cells #[.string fn, .string fs, .slice Aa args.length ac, .slice Bp pcs.length bc2, .slice Cs cl cc2] 43)) w.heap.size [.string s0, .int .i64 D.order, .slice Fa D.files.length fc, .slice Ba D.als.length bc, .slice Ga D.nflags gc, .slice Ca D.cls.length cc, .slice Ma D.fms.length mc, .slice Ra D.rels.length rc, .slice Ua D.uses.length uc, .slice Xa D.rxs.length xc, .slice Ka D.mcs.length kc, .slice Na nl nc, .slice Pa D.regs.length pc] from BlkAt.fr (by have := BlkAt.alloc (w := w) (t := 33) (cs := #[.string s0, .int .i64 D.order, .slice Fa D.files.length fc, .slice Ba D.als.length bc, .slice Ga D.nflags gc, .slice Ca D.cls.length cc, .slice Ma D.fms.length mc, .slice Ra D.rels.length rc, .slice Ua D.uses.length uc, .slice Xa D.rxs.length xc, .slice Ka D.mcs.length kc, .slice Na nl nc, .slice Pa D.regs.length pc]); simpa using this) (Fr.alloc (Fr.refl _) _))
 have KZ := Lib.hid (show (World.heap ((w.alloc (.cells #[.string s0, .int .i64 D.order, .slice Fa D.files.length fc, .slice Ba D.als.length bc, .slice Ga D.nflags gc, .slice Ca D.cls.length cc, .slice Ma D.fms.length mc, .slice Ra D.rels.length rc, .slice Ua D.uses.length uc, .slice Xa D.rxs.length xc, .slice Ka D.mcs.length kc, .slice Na nl nc, .slice Pa D.regs.length pc] 33)).alloc (.cells #[.string fn, .string fs, .slice Aa args.length ac, .slice Bp pcs.length bc2, .slice Cs cl cc2] 43))).size = w.heap.size + 1 + 1 by simp)
 clear h1 h2 h3 h4 h5 h6 h7 h8 h9 hA hP hL ho
 go_enter Tryz.func42, Tryz.ntmps42
 go_wp2_with fail
 generalize World.alloc (World.alloc w _) _ = W2 at *
 refine (HOF.out _ HF0.out).mono ?_
 rintro e w4 ⟨rfl, hf4⟩
 have HF4 := Lib.hid (HF0.out.call hf4)
 have HB4 := Lib.hid (KD.out.fr hf4)
 have HG4 := Lib.hid (KF.out.fr hf4)
 have hz4 : w.heap.size + 1 + 1 ≤ w4.heap.size := by have := hf4.size; rw [KZ.out] at this; exact this
 clear hf4 KD KF KZ HF0 W2
 have g3 := HG4.out 3 _ rfl
 have zg3 := lt_of_cell g3
 go_wp2
 go_loopw [19, 5] (fun i bv wr => RelP6 D args pcs w w4.heap.size [.string s0, .int .i64 D.order, .slice Fa D.files.length fc, .slice Ba D.als.length bc, .slice Ga D.nflags gc, .slice Ca D.cls.length cc, .slice Ma D.fms.length mc, .slice Ra D.rels.length rc, .slice Ua D.uses.length uc, .slice Xa D.rxs.length xc, .slice Ka D.mcs.length kc, .slice Na nl nc, .slice Pa D.regs.length pc] [.string fn, .string fs, .slice Aa args.length ac, .slice Bp pcs.length bc2, .slice Cs cl cc2] i bv wr) (fun i _ _ => pcs.length - (intOf i).toNat)
 case atStart =>
   exact ⟨0, 0, [0, 0, 0, 0, 0, 0], by omega, rfl, rfl, Fr.alloc HF4.out _, HB4.out.fr (Fr.alloc (Fr.refl _) _), HG4.out.fr (Fr.alloc (Fr.refl _) _), BlkAt.alloc, fun k => World.frozen?_alloc_at _ _ _ _ rfl, rfl⟩
 case round =>
   obtain ⟨j, b, seen, hj, rfl, rfl, hf, hB, hG, hS, hz, hst⟩ := hrel
   obtain ⟨q1, q2, q3⟩ := pat_bd HOK.out (pcs.take j) 0 [0, 0, 0, 0, 0, 0] rfl (by decide) (fun p hp => HLT.out.lits p (List.mem_of_mem_take hp)) b seen hst
   have hb1 : b ≤ 1099511627776 := by have := List.length_take_le j pcs; have : (pcs.take j).length * 1048576 ≤ 1048576 * 1048576 := Nat.mul_le_mul_right _ (by omega); omega
   have HF := Lib.hid hf
   have HBr := Lib.hid hB
   have HGr := Lib.hid hG
   have HSr := Lib.hid hS
   have HZr := Lib.hid hz
   have HST := Lib.hid hst
   have Q1 := Lib.hid q1
   have Q2 := Lib.hid q2
   clear q1 q2 q3 HB4 HG4 HF4 g3
   have a0 := HBr.out 0 _ rfl; have a1 := HBr.out 1 _ rfl; have a2 := HBr.out 2 _ rfl; have a3 := HBr.out 3 _ rfl; have a4 := HBr.out 4 _ rfl; have a5 := HBr.out 5 _ rfl; have a6 := HBr.out 6 _ rfl; have a7 := HBr.out 7 _ rfl; have a8 := HBr.out 8 _ rfl; have a9 := HBr.out 9 _ rfl; have a10 := HBr.out 10 _ rfl; have a11 := HBr.out 11 _ rfl; have a12 := HBr.out 12 _ rfl
   have f0 := HGr.out 0 _ rfl; have f1 := HGr.out 1 _ rfl; have f2 := HGr.out 2 _ rfl; have f3 := HGr.out 3 _ rfl; have f4 := HGr.out 4 _ rfl
   have zw := lt_of_cell a0
   have zf := lt_of_cell f0
   by_cases hlt : j < pcs.length
   · obtain ⟨bp, op, rfl, hx⟩ := (HPR.out.fr fun _ _ _ x => x.fr hf).at hlt
     rw [Nat.mul_comm 4 j] at hx
     have HTK := Lib.hid (patF_take (D := D) (args := args) hlt pat0)
     have hlit := HLT.out.lits _ (List.getElem_mem hlt)
     rw [hst] at HTK
     have HDE := Lib.hid (fun h => patF_dead (D := D) (args := args) (pcs := pcs) (j := j + 1) (by omega) (s := pat0) h)
     generalize hx0 : pcs[j] = x at *
     obtain ⟨lit, ar, hi, lo⟩ := x
     obtain ⟨w0, g0, w1, g1, w2, g2, w3, g3⟩ := hx
     simp only at g0 g1 g2 g3 hlit
     have hji : (j : Int) < (pcs.length : Int) := by omega
     have zp := lt_of_cell g0
     have HC := Lib.hid (fun (w1 : World) (k : Fr wr w1) => pieceBits_any (HD.out.fr (HF.out.call k)) fn fs Aa (some ⟨bp, op, none⟩) Cs args ac pcs.length bc2 cl cc2 (HAR.out.fr fun _ _ _ x => x.fr (HF.out.call k)) lit w0 HOK.out ar hi lo)
     have HPX := Lib.hid (show patF D args (some (b, seen)) ⟨lit, ar, hi, lo⟩ = (if pcN D args ⟨lit, ar, hi, lo⟩ = 0 then none else if ar = -1 then some (b + pcN D args ⟨lit, ar, hi, lo⟩, seen)
       else if seen.getD ar.toNat 0 &&& maskN ⟨lit, ar, hi, lo⟩ = 0 then some (b + pcN D args ⟨lit, ar, hi, lo⟩, seen.set ar.toNat (seen.getD ar.toNat 0 ||| maskN ⟨lit, ar, hi, lo⟩)) else none) from rfl)
     have HRT := Lib.hid (fun (h1 : ar ≠ -1) (h2 : pcN D args ⟨lit, ar, hi, lo⟩ ≠ 0) => pc_right (p := ⟨lit, ar, hi, lo⟩) HOK.out h1 h2)
     have HBP := Lib.hid (BlkAt.alloc (w := wr) (t := 148) (cs := #[.string lit, .int .i64 ar, .int .i64 hi, .int .i64 lo]))
     have hn63 : pcN D args ⟨lit, ar, hi, lo⟩ ≤ 1048576 := by
       by_cases h1 : ar = -1
       · unfold pcN; rw [if_pos h1]; split <;> simp_all
       · by_cases h2 : pcN D args ⟨lit, ar, hi, lo⟩ = 0
         · omega
         · obtain ⟨_, _, _, _, _, _, _, _, _, _, _, _⟩ := HRT.out h1 h2; omega
     generalize hpn : pcN D args ⟨lit, ar, hi, lo⟩ = pn at *
     have zs := lt_of_cell (HSr.out 0 _ (u64v_get (k := 0) (by rw [Q1.out]; decide)))
     clear hf hB hG hS hz hst hj w0 w1 w2 w3 hlit hx0
     by_cases hp0 : pn = 0
     · subst hp0
       have HDD := Lib.hid (HDE.out (by rw [HTK.out, HPX.out, if_pos rfl]))
       have HR := Lib.hid (show patN D args pcs = 0 by rw [HPN.out, HDD.out, patR_none])
       go_wp2_with (go_at_call 68; refine (HC.out _ (Fr.alloc (Fr.refl wr) _)).mono ?_; rintro e w5 ⟨rfl, hf5⟩; have HF5 := Lib.hid ((Fr.alloc HF.out _).call hf5); clear hf5)
       go_ret
       exact ⟨ret_int (by rw [HR.out]; rfl), HF5.out⟩
     · have hpz : ((pn : Int) == 0) = false := beq_eq_false_iff_ne.2 (by omega)
       by_cases har : ar = -1
       · have HR := Lib.hid (show (pcs.take (j + 1)).foldl (patF D args) pat0 = some (b + pn, seen) by rw [HTK.out, HPX.out, if_neg hp0, if_pos har])
         subst har
         clear HPX HTK HDE HRT
         go_wp2_with (go_at_call 68; refine (HC.out _ (Fr.alloc (Fr.refl wr) _)).mono ?_; rintro e w5 ⟨rfl, hf5⟩; have HF5 := Lib.hid (Fr.call (Fr.alloc (Fr.refl wr) _) hf5); have p1 := HBP.out.fr hf5 1 _ rfl; clear hf5)
         go_roundw
         case rel => exact ⟨j + 1, b + pn, seen, by omega, by go_num, by go_num, HF.out.call HF5.out, HBr.out.fr HF5.out, HGr.out.fr HF5.out, HSr.out.fr HF5.out, fun k => (HF5.out.cells.2.1 _ k zs).trans (HZr.out k), HR.out⟩
         case measure => simp [intOf]; omega
       · obtain ⟨k, lon, n, rfl, hk, rfl, hhi, hn, hn1, hbt, h64, hmk⟩ := HRT.out har hp0
         obtain rfl : pn = n := hn.symm
         have hk6 : k < 6 := by omega
         have hks : k < seen.length := by rw [Q1.out]; exact hk6
         have hne : ((k : Int) == -1) = false := beq_eq_false_iff_ne.2 (by omega)
         have hki : (k : Int) < 6 := by omega
         have HGT := Lib.hid (u64v_get hks)
         have hx : seen.getD k 0 < 18446744073709551616 := by
           rw [List.getD_eq_getElem?_getD, List.getElem?_eq_getElem hks]; exact Q2.out _ (List.getElem_mem hks)
         have hml := mask_lt hmk h64
         have HAND := Lib.hid (u64_and_nat (seen.getD k 0) (lowI pn * 2 ^ lon) hx (by rw [← hmk]; exact hml))
         have HOR := Lib.hid (u64_or_nat (seen.getD k 0) (lowI pn * 2 ^ lon) hx (by rw [← hmk]; exact hml))
         have HM := Lib.hid (fun w => pieceMask_any lit (k : Int) hi lon pn hhi hn1 h64 w)
         rw [hmk] at HPX
         simp only [Int.toNat_natCast] at HPX
         have hhr : 0 ≤ hi ∧ hi ≤ 63 := by have hh2 : hi = ((lon + pn : Nat) : Int) - 1 := hhi; omega
         clear hmk hml hx hbt
         generalize hsk : seen.getD k 0 = sk at *
         generalize hmm : lowI pn * 2 ^ lon = mm at *
         have hand2 := HAND.out
         have hor2 := HOR.out
         clear hhi h64 hn1
         by_cases hand : sk &&& mm = 0
         · have HR := Lib.hid (show (pcs.take (j + 1)).foldl (patF D args) pat0 = some (b + pn, seen.set k (sk ||| mm)) by rw [HTK.out, HPX.out, if_neg hp0, if_neg har, if_pos hand])
           rw [hand] at hand2
           clear HPX HTK HDE HRT hand hsk hmm HAND HOR
           go_wp2_with fail
           refine (HC.out _ (Fr.alloc (Fr.refl wr) _)).mono ?_
           rintro e w5 ⟨rfl, hf5⟩
           have HF5 := Lib.hid (Fr.call (Fr.alloc (Fr.refl wr) _) hf5)
           have x0 := HBP.out.fr hf5 0 _ rfl; have x1 := HBP.out.fr hf5 1 _ rfl; have x2 := HBP.out.fr hf5 2 _ rfl; have x3 := HBP.out.fr hf5 3 _ rfl
           have xs := HSr.out.fr HF5.out k _ HGT.out
           have y0 := fun ex : Ext w5 => ex.get x0
           have y1 := fun ex : Ext w5 => ex.get x1
           have y2 := fun ex : Ext w5 => ex.get x2
           have y3 := fun ex : Ext w5 => ex.get x3
           have ys := fun ex : Ext w5 => ex.get xs
           clear hf5
           go_wp2_with fail
           refine wp_region_ext (by kernel_rfl) (by kernel_rfl) ?_
           repeat (go_big_quiet_step ((go_at_call 69; exact ext_of (HM.out _))))
           refine wpQuiet_nil ?_
           intro w6 hw6
           obtain ⟨v6, hv6⟩ := hw6
           have HF6 := Lib.hid (show Fr w5 w6 by rw [hv6]; exact v6.fr)
           clear hv6 v6 y0 y1 y2 y3 ys
           have X0 := Lib.hid (HF6.out.get x0)
           have X1 := Lib.hid (HF6.out.get x1)
           have X2 := Lib.hid (HF6.out.get x2)
           have X3 := Lib.hid (HF6.out.get x3)
           have XS := Lib.hid (HF6.out.get xs)
           have HF56 := Lib.hid (HF5.out.call HF6.out)
           have z6 := lt_of_cell XS.out
           have hzz : w6.frozen? ⟨w4.heap.size, k, none⟩ = false := (HF56.out.cells.2.1 _ k zs).trans (HZr.out k)
           have zy := lt_of_cell X0.out
           clear x0 x1 x2 x3 xs
           go_wp2_with fail
           have hns : wr.heap.size ≠ w4.heap.size := by omega
           have HNS := Lib.hid hns
           have xs6 := XS.out
           have d0 := X0.out; have d1 := X1.out; have d2 := X2.out; have d3 := X3.out
           clear hns
           go_region_with (go_at_call 69; refine (HM.out _).mono ?_; rintro e w7 ⟨rfl, hf7⟩; have HF7 := Lib.hid (Fr.call (by with_reducible first | exact Fr.refl _ | exact Fr.drew (Fr.refl _) : Fr w6 _) hf7); have hz7 : w7.frozen? ⟨w4.heap.size, k, none⟩ = false := (HF7.out.cells.2.1 _ k z6).trans hzz; have xs7 := HF7.out.get XS.out; have e0 := HF7.out.get X0.out; have e1 := HF7.out.get X1.out; have e2 := HF7.out.get X2.out; have e3 := HF7.out.get X3.out; clear hf7)
           all_goals
             have HF7r := Lib.hid (HF56.out.call HF7.out)
             have HK2 := Lib.hid (show k < (seen.map u64v).length by rw [List.length_map]; exact hks)
             go_wp2_with fail
             go_roundw
             case rel => exact ⟨j + 1, b + pn, seen.set k (sk ||| mm), by omega, by go_num, by go_num, Fr.set (HF.out.call HF7r.out) (by show w.heap.size ≤ w4.heap.size; omega) _, (HBr.out.fr HF7r.out).setO (by omega), (HGr.out.fr HF7r.out).setO (by omega), by rw [List.map_set]; exact (HSr.out.fr HF7r.out).set HK2.out, fun i => by rw [World.frozen?_setCell]; exact (HF7r.out.cells.2.1 _ i zs).trans (HZr.out i), HR.out⟩
             case measure => simp [intOf]; omega
         · have HDD := Lib.hid (HDE.out (by rw [HTK.out, HPX.out, if_neg hp0, if_neg har, if_neg hand]))
           have HR := Lib.hid (show patN D args pcs = 0 by rw [HPN.out, HDD.out, patR_none])
           have hand3 : (((sk &&& mm : Nat) : Int) != 0) = true := by simp [hand]
           clear HPX HTK HDE HRT hand hsk hmm HAND HOR hor2
           generalize sk &&& mm = an at *
           go_wp2_with fail
           refine (HC.out _ (Fr.alloc (Fr.refl wr) _)).mono ?_
           rintro e w5 ⟨rfl, hf5⟩
           have HF5 := Lib.hid (Fr.call (Fr.alloc (Fr.refl wr) _) hf5)
           have x0 := HBP.out.fr hf5 0 _ rfl; have x1 := HBP.out.fr hf5 1 _ rfl; have x2 := HBP.out.fr hf5 2 _ rfl; have x3 := HBP.out.fr hf5 3 _ rfl
           have xs := HSr.out.fr HF5.out k _ HGT.out
           have y0 := fun ex : Ext w5 => ex.get x0
           have y1 := fun ex : Ext w5 => ex.get x1
           have y2 := fun ex : Ext w5 => ex.get x2
           have y3 := fun ex : Ext w5 => ex.get x3
           have ys := fun ex : Ext w5 => ex.get xs
           clear hf5
           go_wp2_with fail
           refine wp_region_ext (by kernel_rfl) (by kernel_rfl) ?_
           repeat (go_big_quiet_step ((go_at_call 69; exact ext_of (HM.out _))))
           refine wpQuiet_nil ?_
           intro w6 hw6
           obtain ⟨v6, hv6⟩ := hw6
           have HF6 := Lib.hid (show Fr w5 w6 by rw [hv6]; exact v6.fr)
           clear hv6 v6 y0 y1 y2 y3 ys
           go_wp2
           go_ret
           exact ⟨ret_int (by rw [HR.out]; rfl), HF.out.call (HF5.out.call HF6.out)⟩
   · obtain rfl : j = pcs.length := by omega
     rw [List.take_length] at hst
     have HPF := Lib.hid (show patN D args pcs = patR D args (some (b, seen)) by rw [HPN.out, hst])
     clear hf hB hG hS hz hst hj HST
     go_wp2
     go_loopw [55] (fun i wx => RelP7 D args w wr w4.heap.size [.string s0, .int .i64 D.order, .slice Fa D.files.length fc, .slice Ba D.als.length bc, .slice Ga D.nflags gc, .slice Ca D.cls.length cc, .slice Ma D.fms.length mc, .slice Ra D.rels.length rc, .slice Ua D.uses.length uc, .slice Xa D.rxs.length xc, .slice Ka D.mcs.length kc, .slice Na nl nc, .slice Pa D.regs.length pc] seen i wx) (fun i _ => args.length - (intOf i).toNat)
     case atStart => exact ⟨0, by omega, rfl, Fr.refl _, by simp⟩
     case round =>
       clear a0 a1 a2 a3 a4 a5 a6 a7 a8 a9 a10 a11 a12 f0 f1 f2 f3 f4
       obtain ⟨n, hn, rfl, hf, hal⟩ := hrel
       have HFx := Lib.hid hf
       have HFw := Lib.hid (HF.out.call hf)
       have zs := lt_of_cell (HSr.out 0 _ (u64v_get (k := 0) (by rw [Q1.out]; decide)))
       by_cases hlt : n < args.length
       · obtain ⟨ba, oa, rfl, hx⟩ := (HAR.out.fr fun _ _ _ x => x.fr HFw.out).at hlt
         rw [Nat.mul_comm 2 n] at hx
         obtain ⟨c, e1, hc, _, e2, b1, b2⟩ := args_at HOK.out hlt
         obtain ⟨nm, g0, gw, g1⟩ := hx
         rw [e1] at g1
         obtain ⟨bq, oc, rfl, m0, A6, k6, c0, w1, c1, w2, c2, w3, c3, w4', c4, w5, c5, u6, v6, c6, r6⟩ := (HCL.out.fr fun _ _ _ x => x.fr HFw.out).at hc
         rw [Nat.mul_comm 7 c] at c0 c1 c2 c3 c4 c5 c6
         have d5 := HBr.out.fr hf 5 _ rfl
         have hns : n < seen.length := by rw [Q1.out]; omega
         have xs := HSr.out.fr hf n _ (u64v_get hns)
         have hni : (n : Int) < (args.length : Int) := by omega
         have hn6 : (n : Int) < 6 := by omega
         have hci : (c : Int) < (D.cls.length : Int) := by omega
         obtain ⟨nb, hnb⟩ := Int.eq_ofNat_of_zero_le (show 0 ≤ (D.cls[c]).bits by omega)
         have HLO := Lib.hid (fun w => lowest_any nb (by omega) (by omega) w)
         have HTK := Lib.hid (show (List.range (n + 1)).all (fun i => decide (seen.getD i 0 = lowI (bitsAt D args i).toNat)) = decide (seen.getD n 0 = lowI nb) by
           rw [List.range_succ, List.all_append, hal]; simp [e2, hnb])
         have HNO := Lib.hid (fun h : seen.getD n 0 ≠ lowI nb => (show fullB D args seen = false by
           unfold fullB; rw [List.all_eq_false]; exact ⟨n, List.mem_range.2 hlt, by simp [e2, hnb]; simpa using h⟩))
         rw [hnb] at c3
         have zg := lt_of_cell g0
         have zc := lt_of_cell c3
         have zd := lt_of_cell d5
         have zx := lt_of_cell xs
         generalize seen.getD n 0 = sn at *
         clear hf hal hn c0 c1 c2 c4 c5 c6 w1 w2 w3 w4' w5 u6 v6 r6 e1 e2 b1 b2 gw hnb
         by_cases hq : sn = lowI nb
         · have H1 := Lib.hid (HTK.out.trans (decide_eq_true hq))
           have hqi : ((sn : Int) != ((lowI nb : Nat) : Int)) = false := by simp [hq]
           clear hq HNO HTK
           generalize lowI nb = lb at *
           go_wp2_with fail
           go_quiet ((go_at_call 70; refine Calls.quiet_of_same ((HLO.out _).mono fun _ _ h => ⟨h.1, h.2.symm⟩)))
           go_wp2_with fail
           go_roundw
           case rel => exact ⟨n + 1, by omega, by go_num, Fr.drewN (Fr.alloc HFx.out _) _, H1.out⟩
           case measure => simp [intOf]; omega
         · have H1 := Lib.hid (HNO.out hq)
           have hqi : ((sn : Int) != ((lowI nb : Nat) : Int)) = true := by simp; omega
           have HR := Lib.hid (show patN D args pcs = 0 by rw [HPF.out]; unfold patR; simp [H1.out])
           clear hq HNO HTK H1
           generalize lowI nb = lb at *
           go_wp2_with fail
           go_quiet ((go_at_call 70; refine Calls.quiet_of_same ((HLO.out _).mono fun _ _ h => ⟨h.1, h.2.symm⟩)))
           go_wp2
           go_ret
           exact ⟨ret_int (by rw [HR.out]; rfl), Fr.drewN (Fr.alloc HFw.out _) _⟩
       · obtain rfl : n = args.length := by omega
         have HFU := Lib.hid (show fullB D args seen = true from hal)
         have e8 : Int.tmod (b : Int) 8 = ((b % 8 : Nat) : Int) := by rw [Int.tmod_eq_emod_of_nonneg (by omega)]; simp
         clear hf hal hn
         by_cases h8 : b % 8 = 0
         · have e9 : Int.tmod (b : Int) 8 = 0 := by rw [e8, h8]; rfl
           clear e8
           by_cases h120 : b ≤ 120
           · have HR := Lib.hid (show patN D args pcs = b by rw [HPF.out]; unfold patR; simp [HFU.out, h8, h120])
             have hd : decide ((120 : Int) < (b : Int)) = false := by simp; omega
             clear h8 h120
             go_wp2
             go_ret
             exact ⟨ret_int (by rw [HR.out]), HFw.out⟩
           · have HR := Lib.hid (show patN D args pcs = 0 by rw [HPF.out]; unfold patR; simp [h120])
             have hd : decide ((120 : Int) < (b : Int)) = true := by simp; omega
             clear h8 h120
             go_wp2
             go_ret
             exact ⟨ret_int (by rw [HR.out]; rfl), HFw.out⟩
         · have HR := Lib.hid (show patN D args pcs = 0 by rw [HPF.out]; unfold patR; simp [h8])
           have h80 : (((b % 8 : Nat) : Int) != 0) = true := by simp; omega
           clear h8
           generalize b % 8 = r8 at *
           go_wp2
           go_ret
           exact ⟨ret_int (by rw [HR.out]; rfl), HFw.out⟩
end Go.Proofs.YtdipnhghdajplaaGreatDoor
