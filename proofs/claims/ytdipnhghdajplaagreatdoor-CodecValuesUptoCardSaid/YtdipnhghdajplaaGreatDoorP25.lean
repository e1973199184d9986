/- How many bits a piece has, of the program. How many bits a piece has, of the program: a case. How many bits a piece has, of the program: a case. How many bits a piece has, of the program: a case. How many bits a piece has, of the program: a case. How many bits a piece has, of the program. The bits of its operand that a piece has, of the program. -/
import Derived.Test.YtdipnhghdajplaaGreatDoorP22
import Derived.Test.YtdipnhghdajplaaGreatDoorP07
import Derived.Test.YtdipnhghdajplaaGreatDoorShelf
import Derived.Shelf.Strings.SlTrimAscii
namespace Go.Proofs.YtdipnhghdajplaaGreatDoor
open Go.RowKit
set_option linter.unusedSimpArgs false
set_option linter.unusedVariables false

/-- How many bits a literal has. -/
def litN (s : ByteArray) : Nat := if litB s then s.size else 0
def cut01x : ByteArray := ⟨#[48, 49, 120]⟩
theorem trim_empty (s : ByteArray) : (Lib.trimS s.data.toList cut01x.data.toList).isEmpty = litB s := by
  have hc : ∀ c : UInt8, cut01x.data.toList.contains c = litC c := fun c => by
    show [48, 49, 120].contains c = litC c
    rw [litC, Bool.or_assoc]
    simp only [List.contains_cons, List.contains_nil, Bool.or_false]
  have hd : ∀ l : List UInt8, (l.dropWhile (cut01x.data.toList.contains ·)).isEmpty = l.all litC := fun l => by
    induction l with
    | nil => rfl
    | cons x r ih =>
      rw [List.dropWhile_cons]
      simp only [List.all_cons]
      by_cases h : cut01x.data.toList.contains x = true
      · rw [if_pos h, ih, ← hc x, h, Bool.true_and]
      · rw [if_neg h, ← hc x, Bool.eq_false_iff.2 h, Bool.false_and]; rfl
  have hall : ∀ l : List UInt8, (Lib.trimRightS l cut01x.data.toList).all litC = l.all litC := fun l => by
    have key : ∀ l : List UInt8, (l.dropWhile (cut01x.data.toList.contains ·)).all litC = l.all litC := fun l => by
      induction l with
      | nil => rfl
      | cons x r ih =>
        rw [List.dropWhile_cons]
        by_cases h : cut01x.data.toList.contains x = true
        · rw [if_pos h, ih, List.all_cons, ← hc x, h, Bool.true_and]
        · rw [if_neg h]
    unfold Lib.trimRightS
    rw [List.all_reverse, key, List.all_reverse]
  unfold Lib.trimS Lib.trimLeftS
  rw [hd, hall]; rfl
theorem trim_any (s : ByteArray) (hs : s.size ≤ maxLen) (w : World) : Calls Tryz.prog 105 #[.string s, .string ⟨#[48, 49, 120]⟩] w fun e w' => (∃ r : ByteArray, e = .returned (.string r) ∧ r.data.toList.isEmpty = litB s) ∧ Fr w w' :=
  (Any.strings_Trim_laid Tryz.lays160 (by kernel_rfl) s cut01x w (Nat.le_trans hs (by decide)) (by decide) (ascii_of_all (by decide))).mono fun e w' ⟨he, hw⟩ => ⟨⟨_, he, trim_empty s⟩, hw⟩
theorem litN_true {s : ByteArray} (h : litB s = true) : litN s = s.size := by unfold litN; rw [if_pos h]
theorem litN_false {s : ByteArray} (h : litB s = false) : litN s = 0 := by unfold litN; rw [if_neg (by simp [h])]
set_option maxHeartbeats 6400000 in
set_option maxRecDepth 100000 in
theorem pieceBits_lit {w : World} {D : Ds} {v : Array Value} (hD : DescAt w D v) (fn fs : ByteArray) (Aa Bp Cs : Option Addr) (args : List Int) (ac bl bc2 cl cc2 : Nat) (hA : RowOf ArgS 2 w Aa args) (lit : ByteArray) (hlit : lit.size ≤ maxLen) (hi lo : Int) :
    Calls Tryz.prog 68 #[.agg v, .agg #[.string fn, .string fs, .slice Aa args.length ac, .slice Bp bl bc2, .slice Cs cl cc2], .agg #[.string lit, .int .i64 (-1), .int .i64 hi, .int .i64 lo]] w fun e w' => e = .returned (.int .i64 (litN lit : Int)) ∧ Fr w w' := by
  obtain ⟨s0, Fa, Ba, Ga, Ca, Ma, Ra, Ua, Xa, Ka, Na, Pa, fc, bc, gc, cc, mc, rc, uc, xc, kc, nl, nc, pc, rfl, h1, h2, h3, h4, h5, h6, h7, h8, h9⟩ := hD
  clear h1 h2 h3 h4 h5 h6 h7 h8 h9 hA
  have HT := Lib.hid (fun w => trim_any lit hlit w)
  have HF3 := Lib.hid (show Fr w (((w.alloc (.cells #[.string s0, .int .i64 D.order, .slice Fa D.files.length fc, .slice Ba D.als.length bc, .slice Ga D.nflags gc, .slice Ca D.cls.length cc, .slice Ma D.fms.length mc, .slice Ra D.rels.length rc, .slice Ua D.uses.length uc, .slice Xa D.rxs.length xc, .slice Ka D.mcs.length kc, .slice Na nl nc, .slice Pa D.regs.length pc] 33)).alloc (.cells #[.string fn, .string fs, .slice Aa args.length ac, .slice Bp bl bc2, .slice Cs cl cc2] 43)).alloc (.cells #[.string lit, .int .i64 (-1), .int .i64 hi, .int .i64 lo] 148)) from Fr.alloc (Fr.alloc (Fr.alloc (Fr.refl w) _) _) _)
  have HC0 := Lib.hid (show World.cell? (((w.alloc (.cells #[.string s0, .int .i64 D.order, .slice Fa D.files.length fc, .slice Ba D.als.length bc, .slice Ga D.nflags gc, .slice Ca D.cls.length cc, .slice Ma D.fms.length mc, .slice Ra D.rels.length rc, .slice Ua D.uses.length uc, .slice Xa D.rxs.length xc, .slice Ka D.mcs.length kc, .slice Na nl nc, .slice Pa D.regs.length pc] 33)).alloc (.cells #[.string fn, .string fs, .slice Aa args.length ac, .slice Bp bl bc2, .slice Cs cl cc2] 43)).alloc (.cells #[.string lit, .int .i64 (-1), .int .i64 hi, .int .i64 lo] 148)) ⟨w.heap.size + 1 + 1, 0, none⟩ = some (.string lit) from by have := BlkAt.alloc (w := ((w.alloc (.cells #[.string s0, .int .i64 D.order, .slice Fa D.files.length fc, .slice Ba D.als.length bc, .slice Ga D.nflags gc, .slice Ca D.cls.length cc, .slice Ma D.fms.length mc, .slice Ra D.rels.length rc, .slice Ua D.uses.length uc, .slice Xa D.rxs.length xc, .slice Ka D.mcs.length kc, .slice Na nl nc, .slice Pa D.regs.length pc] 33)).alloc (.cells #[.string fn, .string fs, .slice Aa args.length ac, .slice Bp bl bc2, .slice Cs cl cc2] 43))) (t := 148) (cs := #[.string lit, .int .i64 (-1), .int .i64 hi, .int .i64 lo]) 0 _ rfl; simpa using this)
  have hsz : lit.size ≤ 9223372036854775807 := Nat.le_trans hlit (by decide)
  clear hlit
  cases hl : litB lit with
  | false =>
    have HN := Lib.hid (litN_false hl)
    rw [hl] at HT
    clear hl
    go_enter Tryz.func68, Tryz.ntmps68
    go_wp2_with fail
    refine (HT.out _).mono ?_
    rintro e w4 ⟨⟨r, rfl, hr⟩, hf4⟩
    have hr : (!r.toList.isEmpty) = true := by rw [Lib.toList_data, hr]; rfl
    have HF4 := Lib.hid hf4
    clear hf4
    go_wp2
    go_ret
    exact ⟨ret_int (by rw [HN.out]; rfl), HF3.out.call HF4.out⟩
  | true =>
    have HN := Lib.hid (litN_true hl)
    rw [hl] at HT
    clear hl
    go_enter Tryz.func68, Tryz.ntmps68
    go_wp2_with fail
    refine (HT.out _).mono ?_
    rintro e w4 ⟨⟨r, rfl, hr⟩, hf4⟩
    have hr : (!r.toList.isEmpty) = false := by rw [Lib.toList_data, hr]; rfl
    have HF4 := Lib.hid hf4
    have c0 := hf4.get HC0.out
    clear hf4
    go_wp2
    go_ret
    exact ⟨ret_int (by rw [HN.out]), HF3.out.call HF4.out⟩
set_option maxHeartbeats 6400000 in
set_option maxRecDepth 100000 in
theorem pieceBits_no {w : World} {D : Ds} {v : Array Value} (hD : DescAt w D v) (fn fs : ByteArray) (Aa Bp Cs : Option Addr) (args : List Int) (ac bl bc2 cl cc2 : Nat) (hA : RowOf ArgS 2 w Aa args) (lit : ByteArray) (ar hi lo : Int) (ha : ar ≠ -1) (hp : plB ar args.length = false) :
    Calls Tryz.prog 68 #[.agg v, .agg #[.string fn, .string fs, .slice Aa args.length ac, .slice Bp bl bc2, .slice Cs cl cc2], .agg #[.string lit, .int .i64 ar, .int .i64 hi, .int .i64 lo]] w fun e w' => e = .returned (.int .i64 0) ∧ Fr w w' := by
  obtain ⟨s0, Fa, Ba, Ga, Ca, Ma, Ra, Ua, Xa, Ka, Na, Pa, fc, bc, gc, cc, mc, rc, uc, xc, kc, nl, nc, pc, rfl, h1, h2, h3, h4, h5, h6, h7, h8, h9⟩ := hD
  have HP := Lib.hid (fun A c w => hp ▸ argPlace_any ar A args.length c w)
  have hne : (ar == -1) = false := by simp [ha]
  clear h1 h2 h3 h4 h5 h6 h7 h8 h9 hA hp
  have HF3 := Lib.hid (show Fr w (((w.alloc (.cells #[.string s0, .int .i64 D.order, .slice Fa D.files.length fc, .slice Ba D.als.length bc, .slice Ga D.nflags gc, .slice Ca D.cls.length cc, .slice Ma D.fms.length mc, .slice Ra D.rels.length rc, .slice Ua D.uses.length uc, .slice Xa D.rxs.length xc, .slice Ka D.mcs.length kc, .slice Na nl nc, .slice Pa D.regs.length pc] 33)).alloc (.cells #[.string fn, .string fs, .slice Aa args.length ac, .slice Bp bl bc2, .slice Cs cl cc2] 43)).alloc (.cells #[.string lit, .int .i64 ar, .int .i64 hi, .int .i64 lo] 148)) from Fr.alloc (Fr.alloc (Fr.alloc (Fr.refl w) _) _) _)
  go_enter Tryz.func68, Tryz.ntmps68
  go_wp2
  go_quiet ((go_at_call 106; refine Calls.quiet_of_same (HP.out _ _ _)))
  go_wp2
  go_ret
  exact ⟨rfl, Fr.drewN HF3.out _⟩
end Go.Proofs.YtdipnhghdajplaaGreatDoor
namespace Go.Proofs.YtdipnhghdajplaaGreatDoor
open Go.RowKit
set_option linter.unusedSimpArgs false
set_option linter.unusedVariables false
set_option maxHeartbeats 6400000 in
set_option maxRecDepth 100000 in
theorem pieceBits_a0 {w : World} {D : Ds} {v : Array Value} (hD : DescAt w D v) (fn fs : ByteArray) (Aa Bp Cs : Option Addr) (args : List Int) (ac bl bc2 cl cc2 : Nat) (hA : RowOf ArgS 2 w Aa args) (lit : ByteArray) (hok : args.all (clsAtB D) = true) (k : Nat) (hk : k < args.length) (hi lo : Int) (q1 : lo < 0) :
    Calls Tryz.prog 68 #[.agg v, .agg #[.string fn, .string fs, .slice Aa args.length ac, .slice Bp bl bc2, .slice Cs cl cc2], .agg #[.string lit, .int .i64 (k : Int), .int .i64 hi, .int .i64 lo]] w fun e w' => e = .returned (.int .i64 (if 0 ≤ lo ∧ lo ≤ hi ∧ hi < bitsAt D args k then hi - lo + 1 else 0)) ∧ Fr w w' := by
  have HP := Lib.hid (fun A c w => (show plB (k : Int) args.length = true by simp [plB, hk]) ▸ argPlace_any (k : Int) A args.length c w)
  obtain ⟨c, e1, hc, _, e2, b1, b2⟩ := args_at hok hk
  rw [e2]
  obtain ⟨s0, Fa, Ba, Ga, Ca, Ma, Ra, Ua, Xa, Ka, Na, Pa, fc, bc, gc, cc, mc, rc, uc, xc, kc, nl, nc, pc, rfl, h1, h2, h3, h4, h5, h6, h7, h8, h9⟩ := hD
  obtain ⟨ba, oa, rfl, nm, g0, gw, g1⟩ := hA.at hk
  obtain ⟨bq, oc, rfl, m0, A6, k6, c0, w1, c1, w2, c2, w3, c3, w4, c4, w5, c5, u6, v6, c6, r6⟩ := h3.at hc
  rw [e1] at g1
  rw [Nat.mul_comm 2 k] at g0 g1
  rw [Nat.mul_comm 7 c] at c0 c1 c2 c3 c4 c5 c6
  have hki : (k : Int) < (args.length : Int) := by omega
  have hci : (c : Int) < (D.cls.length : Int) := by omega
  have zg := lt_of_cell g1
  have zc := lt_of_cell c3
  have hne : ((k : Int) == -1) = false := beq_eq_false_iff_ne.2 (by omega)
  generalize (D.cls[c]).bits = bt at *
  clear h1 h2 h3 h4 h5 h6 h7 h8 h9 hA e1 e2 g0 gw c0 c1 c2 c4 c5 c6 w1 w2 w3 w4 w5 u6 v6 r6 hok
  have HF3 := Lib.hid (show Fr w (((w.alloc (.cells #[.string s0, .int .i64 D.order, .slice Fa D.files.length fc, .slice Ba D.als.length bc, .slice Ga D.nflags gc, .slice (some ⟨bq, oc, none⟩) D.cls.length cc, .slice Ma D.fms.length mc, .slice Ra D.rels.length rc, .slice Ua D.uses.length uc, .slice Xa D.rxs.length xc, .slice Ka D.mcs.length kc, .slice Na nl nc, .slice Pa D.regs.length pc] 33)).alloc (.cells #[.string fn, .string fs, .slice (some ⟨ba, oa, none⟩) args.length ac, .slice Bp bl bc2, .slice Cs cl cc2] 43)).alloc (.cells #[.string lit, .int .i64 (k : Int), .int .i64 hi, .int .i64 lo] 148)) from Fr.alloc (Fr.alloc (Fr.alloc (Fr.refl w) _) _) _)
  have KP := Lib.hid (show BlkAt (((w.alloc (.cells #[.string s0, .int .i64 D.order, .slice Fa D.files.length fc, .slice Ba D.als.length bc, .slice Ga D.nflags gc, .slice (some ⟨bq, oc, none⟩) D.cls.length cc, .slice Ma D.fms.length mc, .slice Ra D.rels.length rc, .slice Ua D.uses.length uc, .slice Xa D.rxs.length xc, .slice Ka D.mcs.length kc, .slice Na nl nc, .slice Pa D.regs.length pc] 33)).alloc (.cells #[.string fn, .string fs, .slice (some ⟨ba, oa, none⟩) args.length ac, .slice Bp bl bc2, .slice Cs cl cc2] 43)).alloc (.cells #[.string lit, .int .i64 (k : Int), .int .i64 hi, .int .i64 lo] 148)) (w.heap.size + 1 + 1) [.string lit, .int .i64 (k : Int), .int .i64 hi, .int .i64 lo] from by have := BlkAt.alloc (w := ((w.alloc (.cells #[.string s0, .int .i64 D.order, .slice Fa D.files.length fc, .slice Ba D.als.length bc, .slice Ga D.nflags gc, .slice (some ⟨bq, oc, none⟩) D.cls.length cc, .slice Ma D.fms.length mc, .slice Ra D.rels.length rc, .slice Ua D.uses.length uc, .slice Xa D.rxs.length xc, .slice Ka D.mcs.length kc, .slice Na nl nc, .slice Pa D.regs.length pc] 33)).alloc (.cells #[.string fn, .string fs, .slice (some ⟨ba, oa, none⟩) args.length ac, .slice Bp bl bc2, .slice Cs cl cc2] 43))) (t := 148) (cs := #[.string lit, .int .i64 (k : Int), .int .i64 hi, .int .i64 lo]); simpa using this)
  have KF := Lib.hid (show BlkAt (((w.alloc (.cells #[.string s0, .int .i64 D.order, .slice Fa D.files.length fc, .slice Ba D.als.length bc, .slice Ga D.nflags gc, .slice (some ⟨bq, oc, none⟩) D.cls.length cc, .slice Ma D.fms.length mc, .slice Ra D.rels.length rc, .slice Ua D.uses.length uc, .slice Xa D.rxs.length xc, .slice Ka D.mcs.length kc, .slice Na nl nc, .slice Pa D.regs.length pc] 33)).alloc (.cells #[.string fn, .string fs, .slice (some ⟨ba, oa, none⟩) args.length ac, .slice Bp bl bc2, .slice Cs cl cc2] 43)).alloc (.cells #[.string lit, .int .i64 (k : Int), .int .i64 hi, .int .i64 lo] 148)) (w.heap.size + 1) [.string fn, .string fs, .slice (some ⟨ba, oa, none⟩) args.length ac, .slice Bp bl bc2, .slice Cs cl cc2] from BlkAt.fr (by have := BlkAt.alloc (w := (w.alloc (.cells #[.string s0, .int .i64 D.order, .slice Fa D.files.length fc, .slice Ba D.als.length bc, .slice Ga D.nflags gc, .slice (some ⟨bq, oc, none⟩) D.cls.length cc, .slice Ma D.fms.length mc, .slice Ra D.rels.length rc, .slice Ua D.uses.length uc, .slice Xa D.rxs.length xc, .slice Ka D.mcs.length kc, .slice Na nl nc, .slice Pa D.regs.length pc] 33))) (t := 43) (cs := #[.string fn, .string fs, .slice (some ⟨ba, oa, none⟩) args.length ac, .slice Bp bl bc2, .slice Cs cl cc2]); simpa using this) (Fr.alloc (Fr.refl _) _))
  have KD := Lib.hid (show BlkAt (((w.alloc (.cells #[.string s0, .int .i64 D.order, .slice Fa D.files.length fc, .slice Ba D.als.length bc, .slice Ga D.nflags gc, .slice (some ⟨bq, oc, none⟩) D.cls.length cc, .slice Ma D.fms.length mc, .slice Ra D.rels.length rc, .slice Ua D.uses.length uc, .slice Xa D.rxs.length xc, .slice Ka D.mcs.length kc, .slice Na nl nc, .slice Pa D.regs.length pc] 33)).alloc (.cells #[.string fn, .string fs, .slice (some ⟨ba, oa, none⟩) args.length ac, .slice Bp bl bc2, .slice Cs cl cc2] 43)).alloc (.cells #[.string lit, .int .i64 (k : Int), .int .i64 hi, .int .i64 lo] 148)) w.heap.size [.string s0, .int .i64 D.order, .slice Fa D.files.length fc, .slice Ba D.als.length bc, .slice Ga D.nflags gc, .slice (some ⟨bq, oc, none⟩) D.cls.length cc, .slice Ma D.fms.length mc, .slice Ra D.rels.length rc, .slice Ua D.uses.length uc, .slice Xa D.rxs.length xc, .slice Ka D.mcs.length kc, .slice Na nl nc, .slice Pa D.regs.length pc] from BlkAt.fr (by have := BlkAt.alloc (w := w) (t := 33) (cs := #[.string s0, .int .i64 D.order, .slice Fa D.files.length fc, .slice Ba D.als.length bc, .slice Ga D.nflags gc, .slice (some ⟨bq, oc, none⟩) D.cls.length cc, .slice Ma D.fms.length mc, .slice Ra D.rels.length rc, .slice Ua D.uses.length uc, .slice Xa D.rxs.length xc, .slice Ka D.mcs.length kc, .slice Na nl nc, .slice Pa D.regs.length pc]); simpa using this) (Fr.alloc (Fr.alloc (Fr.refl _) _) _))
  have HR := Lib.hid (show (if 0 ≤ lo ∧ lo ≤ hi ∧ hi < bt then hi - lo + 1 else 0) = 0 from if_neg (by omega))
  rw [HR.out]
  clear HR
  go_enter Tryz.func68, Tryz.ntmps68
  go_wp2_with fail
  generalize World.alloc (World.alloc (World.alloc w _) _) _ = W at *
  have p1 := KP.out 1 _ rfl; have p2 := KP.out 2 _ rfl; have p3 := KP.out 3 _ rfl; have f2 := KF.out 2 _ rfl; have d5 := KD.out 5 _ rfl; have e1 := HF3.out.get g1; have e3 := HF3.out.get c3
  have y1 := lt_of_cell p1; have y2 := lt_of_cell f2; have y3 := lt_of_cell d5; have y4 := lt_of_cell e1; have y5 := lt_of_cell e3
  clear g1 c3 zg zc
  go_quiet ((go_at_call 106; refine Calls.quiet_of_same (HP.out _ _ _)))
  go_wp2
  go_ret
  exact ⟨rfl, Fr.drewN HF3.out _⟩
end Go.Proofs.YtdipnhghdajplaaGreatDoor
namespace Go.Proofs.YtdipnhghdajplaaGreatDoor
open Go.RowKit
set_option linter.unusedSimpArgs false
set_option linter.unusedVariables false
set_option maxHeartbeats 6400000 in
set_option maxRecDepth 100000 in
theorem pieceBits_a1 {w : World} {D : Ds} {v : Array Value} (hD : DescAt w D v) (fn fs : ByteArray) (Aa Bp Cs : Option Addr) (args : List Int) (ac bl bc2 cl cc2 : Nat) (hA : RowOf ArgS 2 w Aa args) (lit : ByteArray) (hok : args.all (clsAtB D) = true) (k : Nat) (hk : k < args.length) (hi lo : Int) (q1 : ¬ lo < 0) (q2 : hi < lo) :
    Calls Tryz.prog 68 #[.agg v, .agg #[.string fn, .string fs, .slice Aa args.length ac, .slice Bp bl bc2, .slice Cs cl cc2], .agg #[.string lit, .int .i64 (k : Int), .int .i64 hi, .int .i64 lo]] w fun e w' => e = .returned (.int .i64 (if 0 ≤ lo ∧ lo ≤ hi ∧ hi < bitsAt D args k then hi - lo + 1 else 0)) ∧ Fr w w' := by
  have HP := Lib.hid (fun A c w => (show plB (k : Int) args.length = true by simp [plB, hk]) ▸ argPlace_any (k : Int) A args.length c w)
  obtain ⟨c, e1, hc, _, e2, b1, b2⟩ := args_at hok hk
  rw [e2]
  obtain ⟨s0, Fa, Ba, Ga, Ca, Ma, Ra, Ua, Xa, Ka, Na, Pa, fc, bc, gc, cc, mc, rc, uc, xc, kc, nl, nc, pc, rfl, h1, h2, h3, h4, h5, h6, h7, h8, h9⟩ := hD
  obtain ⟨ba, oa, rfl, nm, g0, gw, g1⟩ := hA.at hk
  obtain ⟨bq, oc, rfl, m0, A6, k6, c0, w1, c1, w2, c2, w3, c3, w4, c4, w5, c5, u6, v6, c6, r6⟩ := h3.at hc
  rw [e1] at g1
  rw [Nat.mul_comm 2 k] at g0 g1
  rw [Nat.mul_comm 7 c] at c0 c1 c2 c3 c4 c5 c6
  have hki : (k : Int) < (args.length : Int) := by omega
  have hci : (c : Int) < (D.cls.length : Int) := by omega
  have zg := lt_of_cell g1
  have zc := lt_of_cell c3
  have hne : ((k : Int) == -1) = false := beq_eq_false_iff_ne.2 (by omega)
  generalize (D.cls[c]).bits = bt at *
  clear h1 h2 h3 h4 h5 h6 h7 h8 h9 hA e1 e2 g0 gw c0 c1 c2 c4 c5 c6 w1 w2 w3 w4 w5 u6 v6 r6 hok
  have HF3 := Lib.hid (show Fr w (((w.alloc (.cells #[.string s0, .int .i64 D.order, .slice Fa D.files.length fc, .slice Ba D.als.length bc, .slice Ga D.nflags gc, .slice (some ⟨bq, oc, none⟩) D.cls.length cc, .slice Ma D.fms.length mc, .slice Ra D.rels.length rc, .slice Ua D.uses.length uc, .slice Xa D.rxs.length xc, .slice Ka D.mcs.length kc, .slice Na nl nc, .slice Pa D.regs.length pc] 33)).alloc (.cells #[.string fn, .string fs, .slice (some ⟨ba, oa, none⟩) args.length ac, .slice Bp bl bc2, .slice Cs cl cc2] 43)).alloc (.cells #[.string lit, .int .i64 (k : Int), .int .i64 hi, .int .i64 lo] 148)) from Fr.alloc (Fr.alloc (Fr.alloc (Fr.refl w) _) _) _)
  have KP := Lib.hid (show BlkAt (((w.alloc (.cells #[.string s0, .int .i64 D.order, .slice Fa D.files.length fc, .slice Ba D.als.length bc, .slice Ga D.nflags gc, .slice (some ⟨bq, oc, none⟩) D.cls.length cc, .slice Ma D.fms.length mc, .slice Ra D.rels.length rc, .slice Ua D.uses.length uc, .slice Xa D.rxs.length xc, .slice Ka D.mcs.length kc, .slice Na nl nc, .slice Pa D.regs.length pc] 33)).alloc (.cells #[.string fn, .string fs, .slice (some ⟨ba, oa, none⟩) args.length ac, .slice Bp bl bc2, .slice Cs cl cc2] 43)).alloc (.cells #[.string lit, .int .i64 (k : Int), .int .i64 hi, .int .i64 lo] 148)) (w.heap.size + 1 + 1) [.string lit, .int .i64 (k : Int), .int .i64 hi, .int .i64 lo] from by have := BlkAt.alloc (w := ((w.alloc (.cells #[.string s0, .int .i64 D.order, .slice Fa D.files.length fc, .slice Ba D.als.length bc, .slice Ga D.nflags gc, .slice (some ⟨bq, oc, none⟩) D.cls.length cc, .slice Ma D.fms.length mc, .slice Ra D.rels.length rc, .slice Ua D.uses.length uc, .slice Xa D.rxs.length xc, .slice Ka D.mcs.length kc, .slice Na nl nc, .slice Pa D.regs.length pc] 33)).alloc (.cells #[.string fn, .string fs, .slice (some ⟨ba, oa, none⟩) args.length ac, .slice Bp bl bc2, .slice Cs cl cc2] 43))) (t := 148) (cs := #[.string lit, .int .i64 (k : Int), .int .i64 hi, .int .i64 lo]); simpa using this)
  have KF := Lib.hid (show BlkAt (((w.alloc (.cells #[.string s0, .int .i64 D.order, .slice Fa D.files.length fc, .slice Ba D.als.length bc, .slice Ga D.nflags gc, .slice (some ⟨bq, oc, none⟩) D.cls.length cc, .slice Ma D.fms.length mc, .slice Ra D.rels.length rc, .slice Ua D.uses.length uc, .slice Xa D.rxs.length xc, .slice Ka D.mcs.length kc, .slice Na nl nc, .slice Pa D.regs.length pc] 33)).alloc (.cells #[.string fn, .string fs, .slice (some ⟨ba, oa, none⟩) args.length ac, .slice Bp bl bc2, .slice Cs cl cc2] 43)).alloc (.cells #[.string lit, .int .i64 (k : Int), .int .i64 hi, .int .i64 lo] 148)) (w.heap.size + 1) [.string fn, .string fs, .slice (some ⟨ba, oa, none⟩) args.length ac, .slice Bp bl bc2, .slice Cs cl cc2] from BlkAt.fr (by have := BlkAt.alloc (w := (w.alloc (.cells #[.string s0, .int .i64 D.order, .slice Fa D.files.length fc, .slice Ba D.als.length bc, .slice Ga D.nflags gc, .slice (some ⟨bq, oc, none⟩) D.cls.length cc, .slice Ma D.fms.length mc, .slice Ra D.rels.length rc, .slice Ua D.uses.length uc, .slice Xa D.rxs.length xc, .slice Ka D.mcs.length kc, .slice Na nl nc, .slice Pa D.regs.length pc] 33))) (t := 43) (cs := #[.string fn, .string fs, .slice (some ⟨ba, oa, none⟩) args.length ac, .slice Bp bl bc2, .slice Cs cl cc2]); simpa using this) (Fr.alloc (Fr.refl _) _))
  have KD := Lib.hid (show BlkAt (((w.alloc (.cells #[.string s0, .int .i64 D.order, .slice Fa D.files.length fc, .slice Ba D.als.length bc, .slice Ga D.nflags gc, .slice (some ⟨bq, oc, none⟩) D.cls.length cc, .slice Ma D.fms.length mc, .slice Ra D.rels.length rc, .slice Ua D.uses.length uc, .slice Xa D.rxs.length xc, .slice Ka D.mcs.length kc, .slice Na nl nc, .slice Pa D.regs.length pc] 33)).alloc (.cells #[.string fn, .string fs, .slice (some ⟨ba, oa, none⟩) args.length ac, .slice Bp bl bc2, .slice Cs cl cc2] 43)).alloc (.cells #[.string lit, .int .i64 (k : Int), .int .i64 hi, .int .i64 lo] 148)) w.heap.size [.string s0, .int .i64 D.order, .slice Fa D.files.length fc, .slice Ba D.als.length bc, .slice Ga D.nflags gc, .slice (some ⟨bq, oc, none⟩) D.cls.length cc, .slice Ma D.fms.length mc, .slice Ra D.rels.length rc, .slice Ua D.uses.length uc, .slice Xa D.rxs.length xc, .slice Ka D.mcs.length kc, .slice Na nl nc, .slice Pa D.regs.length pc] from BlkAt.fr (by have := BlkAt.alloc (w := w) (t := 33) (cs := #[.string s0, .int .i64 D.order, .slice Fa D.files.length fc, .slice Ba D.als.length bc, .slice Ga D.nflags gc, .slice (some ⟨bq, oc, none⟩) D.cls.length cc, .slice Ma D.fms.length mc, .slice Ra D.rels.length rc, .slice Ua D.uses.length uc, .slice Xa D.rxs.length xc, .slice Ka D.mcs.length kc, .slice Na nl nc, .slice Pa D.regs.length pc]); simpa using this) (Fr.alloc (Fr.alloc (Fr.refl _) _) _))
  have HR := Lib.hid (show (if 0 ≤ lo ∧ lo ≤ hi ∧ hi < bt then hi - lo + 1 else 0) = 0 from if_neg (by omega))
  rw [HR.out]
  clear HR
  have hd1 : decide (lo < 0) = false := by simp; omega
  have hd2 : decide (hi < lo) = true := by simp; omega
  clear q1 q2
  go_enter Tryz.func68, Tryz.ntmps68
  go_wp2_with fail
  generalize World.alloc (World.alloc (World.alloc w _) _) _ = W at *
  have p1 := KP.out 1 _ rfl; have p2 := KP.out 2 _ rfl; have p3 := KP.out 3 _ rfl; have f2 := KF.out 2 _ rfl; have d5 := KD.out 5 _ rfl; have e1 := HF3.out.get g1; have e3 := HF3.out.get c3
  have y1 := lt_of_cell p1; have y2 := lt_of_cell f2; have y3 := lt_of_cell d5; have y4 := lt_of_cell e1; have y5 := lt_of_cell e3
  clear g1 c3 zg zc
  go_quiet ((go_at_call 106; refine Calls.quiet_of_same (HP.out _ _ _)))
  go_wp2
  go_ret
  exact ⟨rfl, Fr.drewN HF3.out _⟩
end Go.Proofs.YtdipnhghdajplaaGreatDoor
namespace Go.Proofs.YtdipnhghdajplaaGreatDoor
open Go.RowKit
set_option linter.unusedSimpArgs false
set_option linter.unusedVariables false
set_option maxHeartbeats 6400000 in
set_option maxRecDepth 100000 in
theorem pieceBits_a2 {w : World} {D : Ds} {v : Array Value} (hD : DescAt w D v) (fn fs : ByteArray) (Aa Bp Cs : Option Addr) (args : List Int) (ac bl bc2 cl cc2 : Nat) (hA : RowOf ArgS 2 w Aa args) (lit : ByteArray) (hok : args.all (clsAtB D) = true) (k : Nat) (hk : k < args.length) (hi lo : Int) (q1 : ¬ lo < 0) (q2 : ¬ hi < lo) (q3 : hi < bitsAt D args k) :
    Calls Tryz.prog 68 #[.agg v, .agg #[.string fn, .string fs, .slice Aa args.length ac, .slice Bp bl bc2, .slice Cs cl cc2], .agg #[.string lit, .int .i64 (k : Int), .int .i64 hi, .int .i64 lo]] w fun e w' => e = .returned (.int .i64 (if 0 ≤ lo ∧ lo ≤ hi ∧ hi < bitsAt D args k then hi - lo + 1 else 0)) ∧ Fr w w' := by
  have HP := Lib.hid (fun A c w => (show plB (k : Int) args.length = true by simp [plB, hk]) ▸ argPlace_any (k : Int) A args.length c w)
  obtain ⟨c, e1, hc, _, e2, b1, b2⟩ := args_at hok hk
  rw [e2] at q3 ⊢
  obtain ⟨s0, Fa, Ba, Ga, Ca, Ma, Ra, Ua, Xa, Ka, Na, Pa, fc, bc, gc, cc, mc, rc, uc, xc, kc, nl, nc, pc, rfl, h1, h2, h3, h4, h5, h6, h7, h8, h9⟩ := hD
  obtain ⟨ba, oa, rfl, nm, g0, gw, g1⟩ := hA.at hk
  obtain ⟨bq, oc, rfl, m0, A6, k6, c0, w1, c1, w2, c2, w3, c3, w4, c4, w5, c5, u6, v6, c6, r6⟩ := h3.at hc
  rw [e1] at g1
  rw [Nat.mul_comm 2 k] at g0 g1
  rw [Nat.mul_comm 7 c] at c0 c1 c2 c3 c4 c5 c6
  have hki : (k : Int) < (args.length : Int) := by omega
  have hci : (c : Int) < (D.cls.length : Int) := by omega
  have zg := lt_of_cell g1
  have zc := lt_of_cell c3
  have hne : ((k : Int) == -1) = false := beq_eq_false_iff_ne.2 (by omega)
  generalize (D.cls[c]).bits = bt at *
  clear h1 h2 h3 h4 h5 h6 h7 h8 h9 hA e1 e2 g0 gw c0 c1 c2 c4 c5 c6 w1 w2 w3 w4 w5 u6 v6 r6 hok
  have HF3 := Lib.hid (show Fr w (((w.alloc (.cells #[.string s0, .int .i64 D.order, .slice Fa D.files.length fc, .slice Ba D.als.length bc, .slice Ga D.nflags gc, .slice (some ⟨bq, oc, none⟩) D.cls.length cc, .slice Ma D.fms.length mc, .slice Ra D.rels.length rc, .slice Ua D.uses.length uc, .slice Xa D.rxs.length xc, .slice Ka D.mcs.length kc, .slice Na nl nc, .slice Pa D.regs.length pc] 33)).alloc (.cells #[.string fn, .string fs, .slice (some ⟨ba, oa, none⟩) args.length ac, .slice Bp bl bc2, .slice Cs cl cc2] 43)).alloc (.cells #[.string lit, .int .i64 (k : Int), .int .i64 hi, .int .i64 lo] 148)) from Fr.alloc (Fr.alloc (Fr.alloc (Fr.refl w) _) _) _)
  have KP := Lib.hid (show BlkAt (((w.alloc (.cells #[.string s0, .int .i64 D.order, .slice Fa D.files.length fc, .slice Ba D.als.length bc, .slice Ga D.nflags gc, .slice (some ⟨bq, oc, none⟩) D.cls.length cc, .slice Ma D.fms.length mc, .slice Ra D.rels.length rc, .slice Ua D.uses.length uc, .slice Xa D.rxs.length xc, .slice Ka D.mcs.length kc, .slice Na nl nc, .slice Pa D.regs.length pc] 33)).alloc (.cells #[.string fn, .string fs, .slice (some ⟨ba, oa, none⟩) args.length ac, .slice Bp bl bc2, .slice Cs cl cc2] 43)).alloc (.cells #[.string lit, .int .i64 (k : Int), .int .i64 hi, .int .i64 lo] 148)) (w.heap.size + 1 + 1) [.string lit, .int .i64 (k : Int), .int .i64 hi, .int .i64 lo] from by have := BlkAt.alloc (w := ((w.alloc (.cells #[.string s0, .int .i64 D.order, .slice Fa D.files.length fc, .slice Ba D.als.length bc, .slice Ga D.nflags gc, .slice (some ⟨bq, oc, none⟩) D.cls.length cc, .slice Ma D.fms.length mc, .slice Ra D.rels.length rc, .slice Ua D.uses.length uc, .slice Xa D.rxs.length xc, .slice Ka D.mcs.length kc, .slice Na nl nc, .slice Pa D.regs.length pc] 33)).alloc (.cells #[.string fn, .string fs, .slice (some ⟨ba, oa, none⟩) args.length ac, .slice Bp bl bc2, .slice Cs cl cc2] 43))) (t := 148) (cs := #[.string lit, .int .i64 (k : Int), .int .i64 hi, .int .i64 lo]); simpa using this)
  have KF := Lib.hid (show BlkAt (((w.alloc (.cells #[.string s0, .int .i64 D.order, .slice Fa D.files.length fc, .slice Ba D.als.length bc, .slice Ga D.nflags gc, .slice (some ⟨bq, oc, none⟩) D.cls.length cc, .slice Ma D.fms.length mc, .slice Ra D.rels.length rc, .slice Ua D.uses.length uc, .slice Xa D.rxs.length xc, .slice Ka D.mcs.length kc, .slice Na nl nc, .slice Pa D.regs.length pc] 33)).alloc (.cells #[.string fn, .string fs, .slice (some ⟨ba, oa, none⟩) args.length ac, .slice Bp bl bc2, .slice Cs cl cc2] 43)).alloc (.cells #[.string lit, .int .i64 (k : Int), .int .i64 hi, .int .i64 lo] 148)) (w.heap.size + 1) [.string fn, .string fs, .slice (some ⟨ba, oa, none⟩) args.length ac, .slice Bp bl bc2, .slice Cs cl cc2] from BlkAt.fr (by have := BlkAt.alloc (w := (w.alloc (.cells #[.string s0, .int .i64 D.order, .slice Fa D.files.length fc, .slice Ba D.als.length bc, .slice Ga D.nflags gc, .slice (some ⟨bq, oc, none⟩) D.cls.length cc, .slice Ma D.fms.length mc, .slice Ra D.rels.length rc, .slice Ua D.uses.length uc, .slice Xa D.rxs.length xc, .slice Ka D.mcs.length kc, .slice Na nl nc, .slice Pa D.regs.length pc] 33))) (t := 43) (cs := #[.string fn, .string fs, .slice (some ⟨ba, oa, none⟩) args.length ac, .slice Bp bl bc2, .slice Cs cl cc2]); simpa using this) (Fr.alloc (Fr.refl _) _))
  have KD := Lib.hid (show BlkAt (((w.alloc (.cells #[.string s0, .int .i64 D.order, .slice Fa D.files.length fc, .slice Ba D.als.length bc, .slice Ga D.nflags gc, .slice (some ⟨bq, oc, none⟩) D.cls.length cc, .slice Ma D.fms.length mc, .slice Ra D.rels.length rc, .slice Ua D.uses.length uc, .slice Xa D.rxs.length xc, .slice Ka D.mcs.length kc, .slice Na nl nc, .slice Pa D.regs.length pc] 33)).alloc (.cells #[.string fn, .string fs, .slice (some ⟨ba, oa, none⟩) args.length ac, .slice Bp bl bc2, .slice Cs cl cc2] 43)).alloc (.cells #[.string lit, .int .i64 (k : Int), .int .i64 hi, .int .i64 lo] 148)) w.heap.size [.string s0, .int .i64 D.order, .slice Fa D.files.length fc, .slice Ba D.als.length bc, .slice Ga D.nflags gc, .slice (some ⟨bq, oc, none⟩) D.cls.length cc, .slice Ma D.fms.length mc, .slice Ra D.rels.length rc, .slice Ua D.uses.length uc, .slice Xa D.rxs.length xc, .slice Ka D.mcs.length kc, .slice Na nl nc, .slice Pa D.regs.length pc] from BlkAt.fr (by have := BlkAt.alloc (w := w) (t := 33) (cs := #[.string s0, .int .i64 D.order, .slice Fa D.files.length fc, .slice Ba D.als.length bc, .slice Ga D.nflags gc, .slice (some ⟨bq, oc, none⟩) D.cls.length cc, .slice Ma D.fms.length mc, .slice Ra D.rels.length rc, .slice Ua D.uses.length uc, .slice Xa D.rxs.length xc, .slice Ka D.mcs.length kc, .slice Na nl nc, .slice Pa D.regs.length pc]); simpa using this) (Fr.alloc (Fr.alloc (Fr.refl _) _) _))
  have HR := Lib.hid (show (if 0 ≤ lo ∧ lo ≤ hi ∧ hi < bt then hi - lo + 1 else 0) = hi - lo + 1 from if_pos (by omega))
  rw [HR.out]
  clear HR
  have q4 : ¬ bt ≤ hi := by omega
  go_enter Tryz.func68, Tryz.ntmps68
  go_wp2_with fail
  generalize World.alloc (World.alloc (World.alloc w _) _) _ = W at *
  have p1 := KP.out 1 _ rfl; have p2 := KP.out 2 _ rfl; have p3 := KP.out 3 _ rfl; have f2 := KF.out 2 _ rfl; have d5 := KD.out 5 _ rfl; have e1 := HF3.out.get g1; have e3 := HF3.out.get c3
  have y1 := lt_of_cell p1; have y2 := lt_of_cell f2; have y3 := lt_of_cell d5; have y4 := lt_of_cell e1; have y5 := lt_of_cell e3
  clear g1 c3 zg zc
  go_quiet ((go_at_call 106; refine Calls.quiet_of_same (HP.out _ _ _)))
  go_wp2
  go_ret
  exact ⟨ret_int (by omega), Fr.drewN HF3.out _⟩
end Go.Proofs.YtdipnhghdajplaaGreatDoor
namespace Go.Proofs.YtdipnhghdajplaaGreatDoor
open Go.RowKit
set_option linter.unusedSimpArgs false
set_option linter.unusedVariables false
set_option maxHeartbeats 6400000 in
set_option maxRecDepth 100000 in
theorem pieceBits_a3 {w : World} {D : Ds} {v : Array Value} (hD : DescAt w D v) (fn fs : ByteArray) (Aa Bp Cs : Option Addr) (args : List Int) (ac bl bc2 cl cc2 : Nat) (hA : RowOf ArgS 2 w Aa args) (lit : ByteArray) (hok : args.all (clsAtB D) = true) (k : Nat) (hk : k < args.length) (hi lo : Int) (q1 : ¬ lo < 0) (q2 : ¬ hi < lo) (q3 : ¬ hi < bitsAt D args k) :
    Calls Tryz.prog 68 #[.agg v, .agg #[.string fn, .string fs, .slice Aa args.length ac, .slice Bp bl bc2, .slice Cs cl cc2], .agg #[.string lit, .int .i64 (k : Int), .int .i64 hi, .int .i64 lo]] w fun e w' => e = .returned (.int .i64 (if 0 ≤ lo ∧ lo ≤ hi ∧ hi < bitsAt D args k then hi - lo + 1 else 0)) ∧ Fr w w' := by
  have HP := Lib.hid (fun A c w => (show plB (k : Int) args.length = true by simp [plB, hk]) ▸ argPlace_any (k : Int) A args.length c w)
  obtain ⟨c, e1, hc, _, e2, b1, b2⟩ := args_at hok hk
  rw [e2] at q3 ⊢
  obtain ⟨s0, Fa, Ba, Ga, Ca, Ma, Ra, Ua, Xa, Ka, Na, Pa, fc, bc, gc, cc, mc, rc, uc, xc, kc, nl, nc, pc, rfl, h1, h2, h3, h4, h5, h6, h7, h8, h9⟩ := hD
  obtain ⟨ba, oa, rfl, nm, g0, gw, g1⟩ := hA.at hk
  obtain ⟨bq, oc, rfl, m0, A6, k6, c0, w1, c1, w2, c2, w3, c3, w4, c4, w5, c5, u6, v6, c6, r6⟩ := h3.at hc
  rw [e1] at g1
  rw [Nat.mul_comm 2 k] at g0 g1
  rw [Nat.mul_comm 7 c] at c0 c1 c2 c3 c4 c5 c6
  have hki : (k : Int) < (args.length : Int) := by omega
  have hci : (c : Int) < (D.cls.length : Int) := by omega
  have zg := lt_of_cell g1
  have zc := lt_of_cell c3
  have hne : ((k : Int) == -1) = false := beq_eq_false_iff_ne.2 (by omega)
  generalize (D.cls[c]).bits = bt at *
  clear h1 h2 h3 h4 h5 h6 h7 h8 h9 hA e1 e2 g0 gw c0 c1 c2 c4 c5 c6 w1 w2 w3 w4 w5 u6 v6 r6 hok
  have HF3 := Lib.hid (show Fr w (((w.alloc (.cells #[.string s0, .int .i64 D.order, .slice Fa D.files.length fc, .slice Ba D.als.length bc, .slice Ga D.nflags gc, .slice (some ⟨bq, oc, none⟩) D.cls.length cc, .slice Ma D.fms.length mc, .slice Ra D.rels.length rc, .slice Ua D.uses.length uc, .slice Xa D.rxs.length xc, .slice Ka D.mcs.length kc, .slice Na nl nc, .slice Pa D.regs.length pc] 33)).alloc (.cells #[.string fn, .string fs, .slice (some ⟨ba, oa, none⟩) args.length ac, .slice Bp bl bc2, .slice Cs cl cc2] 43)).alloc (.cells #[.string lit, .int .i64 (k : Int), .int .i64 hi, .int .i64 lo] 148)) from Fr.alloc (Fr.alloc (Fr.alloc (Fr.refl w) _) _) _)
  have KP := Lib.hid (show BlkAt (((w.alloc (.cells #[.string s0, .int .i64 D.order, .slice Fa D.files.length fc, .slice Ba D.als.length bc, .slice Ga D.nflags gc, .slice (some ⟨bq, oc, none⟩) D.cls.length cc, .slice Ma D.fms.length mc, .slice Ra D.rels.length rc, .slice Ua D.uses.length uc, .slice Xa D.rxs.length xc, .slice Ka D.mcs.length kc, .slice Na nl nc, .slice Pa D.regs.length pc] 33)).alloc (.cells #[.string fn, .string fs, .slice (some ⟨ba, oa, none⟩) args.length ac, .slice Bp bl bc2, .slice Cs cl cc2] 43)).alloc (.cells #[.string lit, .int .i64 (k : Int), .int .i64 hi, .int .i64 lo] 148)) (w.heap.size + 1 + 1) [.string lit, .int .i64 (k : Int), .int .i64 hi, .int .i64 lo] from by have := BlkAt.alloc (w := ((w.alloc (.cells #[.string s0, .int .i64 D.order, .slice Fa D.files.length fc, .slice Ba D.als.length bc, .slice Ga D.nflags gc, .slice (some ⟨bq, oc, none⟩) D.cls.length cc, .slice Ma D.fms.length mc, .slice Ra D.rels.length rc, .slice Ua D.uses.length uc, .slice Xa D.rxs.length xc, .slice Ka D.mcs.length kc, .slice Na nl nc, .slice Pa D.regs.length pc] 33)).alloc (.cells #[.string fn, .string fs, .slice (some ⟨ba, oa, none⟩) args.length ac, .slice Bp bl bc2, .slice Cs cl cc2] 43))) (t := 148) (cs := #[.string lit, .int .i64 (k : Int), .int .i64 hi, .int .i64 lo]); simpa using this)
  have KF := Lib.hid (show BlkAt (((w.alloc (.cells #[.string s0, .int .i64 D.order, .slice Fa D.files.length fc, .slice Ba D.als.length bc, .slice Ga D.nflags gc, .slice (some ⟨bq, oc, none⟩) D.cls.length cc, .slice Ma D.fms.length mc, .slice Ra D.rels.length rc, .slice Ua D.uses.length uc, .slice Xa D.rxs.length xc, .slice Ka D.mcs.length kc, .slice Na nl nc, .slice Pa D.regs.length pc] 33)).alloc (.cells #[.string fn, .string fs, .slice (some ⟨ba, oa, none⟩) args.length ac, .slice Bp bl bc2, .slice Cs cl cc2] 43)).alloc (.cells #[.string lit, .int .i64 (k : Int), .int .i64 hi, .int .i64 lo] 148)) (w.heap.size + 1) [.string fn, .string fs, .slice (some ⟨ba, oa, none⟩) args.length ac, .slice Bp bl bc2, .slice Cs cl cc2] from BlkAt.fr (by have := BlkAt.alloc (w := (w.alloc (.cells #[.string s0, .int .i64 D.order, .slice Fa D.files.length fc, .slice Ba D.als.length bc, .slice Ga D.nflags gc, .slice (some ⟨bq, oc, none⟩) D.cls.length cc, .slice Ma D.fms.length mc, .slice Ra D.rels.length rc, .slice Ua D.uses.length uc, .slice Xa D.rxs.length xc, .slice Ka D.mcs.length kc, .slice Na nl nc, .slice Pa D.regs.length pc] 33))) (t := 43) (cs := #[.string fn, .string fs, .slice (some ⟨ba, oa, none⟩) args.length ac, .slice Bp bl bc2, .slice Cs cl cc2]); simpa using this) (Fr.alloc (Fr.refl _) _))
  have KD := Lib.hid (show BlkAt (((w.alloc (.cells #[.string s0, .int .i64 D.order, .slice Fa D.files.length fc, .slice Ba D.als.length bc, .slice Ga D.nflags gc, .slice (some ⟨bq, oc, none⟩) D.cls.length cc, .slice Ma D.fms.length mc, .slice Ra D.rels.length rc, .slice Ua D.uses.length uc, .slice Xa D.rxs.length xc, .slice Ka D.mcs.length kc, .slice Na nl nc, .slice Pa D.regs.length pc] 33)).alloc (.cells #[.string fn, .string fs, .slice (some ⟨ba, oa, none⟩) args.length ac, .slice Bp bl bc2, .slice Cs cl cc2] 43)).alloc (.cells #[.string lit, .int .i64 (k : Int), .int .i64 hi, .int .i64 lo] 148)) w.heap.size [.string s0, .int .i64 D.order, .slice Fa D.files.length fc, .slice Ba D.als.length bc, .slice Ga D.nflags gc, .slice (some ⟨bq, oc, none⟩) D.cls.length cc, .slice Ma D.fms.length mc, .slice Ra D.rels.length rc, .slice Ua D.uses.length uc, .slice Xa D.rxs.length xc, .slice Ka D.mcs.length kc, .slice Na nl nc, .slice Pa D.regs.length pc] from BlkAt.fr (by have := BlkAt.alloc (w := w) (t := 33) (cs := #[.string s0, .int .i64 D.order, .slice Fa D.files.length fc, .slice Ba D.als.length bc, .slice Ga D.nflags gc, .slice (some ⟨bq, oc, none⟩) D.cls.length cc, .slice Ma D.fms.length mc, .slice Ra D.rels.length rc, .slice Ua D.uses.length uc, .slice Xa D.rxs.length xc, .slice Ka D.mcs.length kc, .slice Na nl nc, .slice Pa D.regs.length pc]); simpa using this) (Fr.alloc (Fr.alloc (Fr.refl _) _) _))
  have HR := Lib.hid (show (if 0 ≤ lo ∧ lo ≤ hi ∧ hi < bt then hi - lo + 1 else 0) = 0 from if_neg (by omega))
  rw [HR.out]
  clear HR
  have q4 : bt ≤ hi := by omega
  go_enter Tryz.func68, Tryz.ntmps68
  go_wp2_with fail
  generalize World.alloc (World.alloc (World.alloc w _) _) _ = W at *
  have p1 := KP.out 1 _ rfl; have p2 := KP.out 2 _ rfl; have p3 := KP.out 3 _ rfl; have f2 := KF.out 2 _ rfl; have d5 := KD.out 5 _ rfl; have e1 := HF3.out.get g1; have e3 := HF3.out.get c3
  have y1 := lt_of_cell p1; have y2 := lt_of_cell f2; have y3 := lt_of_cell d5; have y4 := lt_of_cell e1; have y5 := lt_of_cell e3
  clear g1 c3 zg zc
  go_quiet ((go_at_call 106; refine Calls.quiet_of_same (HP.out _ _ _)))
  go_wp2
  go_ret
  exact ⟨rfl, Fr.drewN HF3.out _⟩
end Go.Proofs.YtdipnhghdajplaaGreatDoor
namespace Go.Proofs.YtdipnhghdajplaaGreatDoor
open Go.RowKit
set_option linter.unusedSimpArgs false
set_option linter.unusedVariables false

/-- How many bits a piece has. -/
theorem pieceBits_any {w : World} {D : Ds} {v : Array Value} (hD : DescAt w D v) (fn fs : ByteArray) (Aa Bp Cs : Option Addr) (args : List Int) (ac bl bc2 cl cc2 : Nat) (hA : RowOf ArgS 2 w Aa args) (lit : ByteArray) (hlit : lit.size ≤ maxLen) (hok : args.all (clsAtB D) = true) (ar hi lo : Int) :
    Calls Tryz.prog 68 #[.agg v, .agg #[.string fn, .string fs, .slice Aa args.length ac, .slice Bp bl bc2, .slice Cs cl cc2], .agg #[.string lit, .int .i64 ar, .int .i64 hi, .int .i64 lo]] w fun e w' => e = .returned (.int .i64 (pcN D args ⟨lit, ar, hi, lo⟩ : Int)) ∧ Fr w w' := by
  by_cases ha : ar = -1
  · subst ha
    have e : pcN D args ⟨lit, -1, hi, lo⟩ = litN lit := by unfold pcN litN; rw [if_pos rfl]
    rw [e]
    exact pieceBits_lit hD fn fs Aa Bp Cs args ac bl bc2 cl cc2 hA lit hlit hi lo
  · cases hp : plB ar args.length with
    | false =>
      have e : pcN D args ⟨lit, ar, hi, lo⟩ = 0 := by unfold pcN; rw [if_neg ha, hp]; simp
      rw [e]
      exact pieceBits_no hD fn fs Aa Bp Cs args ac bl bc2 cl cc2 hA lit ar hi lo ha hp
    | true =>
      obtain ⟨k, rfl, hk⟩ := plB_ex hp
      have e : (pcN D args ⟨lit, (k : Int), hi, lo⟩ : Int) = if 0 ≤ lo ∧ lo ≤ hi ∧ hi < bitsAt D args k then hi - lo + 1 else 0 := by
        unfold pcN
        rw [if_neg ha]
        simp only [hp, Bool.true_and, Int.toNat_natCast]
        by_cases q : 0 ≤ lo ∧ lo ≤ hi ∧ hi < bitsAt D args k
        · rw [if_pos q, if_pos (by simp [q])]; omega
        · rw [if_neg q, if_neg (by simpa using q)]; rfl
      rw [e]
      by_cases q1 : lo < 0
      · exact pieceBits_a0 hD fn fs Aa Bp Cs args ac bl bc2 cl cc2 hA lit hok k hk hi lo q1
      · by_cases q2 : hi < lo
        · exact pieceBits_a1 hD fn fs Aa Bp Cs args ac bl bc2 cl cc2 hA lit hok k hk hi lo q1 q2
        · by_cases q3 : hi < bitsAt D args k
          · exact pieceBits_a2 hD fn fs Aa Bp Cs args ac bl bc2 cl cc2 hA lit hok k hk hi lo q1 q2 q3
          · exact pieceBits_a3 hD fn fs Aa Bp Cs args ac bl bc2 cl cc2 hA lit hok k hk hi lo q1 q2 q3
end Go.Proofs.YtdipnhghdajplaaGreatDoor
namespace Go.Proofs.YtdipnhghdajplaaGreatDoor
open Go.RowKit
set_option linter.unusedSimpArgs false
set_option linter.unusedVariables false

theorem mask_wrap (lo n : Nat) (h2 : lo + n ≤ 64) : IntKind.u64.wrap ((lowI n : Int) * 2 ^ lo) = ((lowI n * 2 ^ lo : Nat) : Int) := by
  have h1 := low_lt n
  have h3 := Nat.two_pow_pos lo
  have h4 : lowI n * 2 ^ lo < 18446744073709551616 := by
    calc lowI n * 2 ^ lo < 2 ^ n * 2 ^ lo := Nat.mul_lt_mul_of_pos_right h1 h3
      _ = 2 ^ (n + lo) := by rw [Nat.pow_add]
      _ ≤ 2 ^ 64 := Nat.pow_le_pow_right (by decide) (by omega)
      _ = 18446744073709551616 := by decide
  have e : ((lowI n : Int) * 2 ^ lo) = ((lowI n * 2 ^ lo : Nat) : Int) := by simp
  rw [e]
  generalize lowI n * 2 ^ lo = z at *
  simp [IntKind.wrap, IntKind.bits, IntKind.signed]
  omega
set_option maxHeartbeats 3200000 in
theorem pieceMask_any (lit : ByteArray) (ar hi : Int) (lo n : Nat) (hh : hi = ((lo + n : Nat) : Int) - 1) (h1 : 1 ≤ n) (h2 : lo + n ≤ 64) (w : World) :
    Calls Tryz.prog 69 #[.agg #[.string lit, .int .i64 ar, .int .i64 hi, .int .i64 (lo : Int)]] w fun e w' => e = .returned (.int .u64 ((lowI n * 2 ^ lo : Nat) : Int)) ∧ Fr w w' := by
  have HL := Lib.hid (fun (x : Int) (hx : x = (n : Int)) (w : World) => hx ▸ lowest_any n h1 (by omega) w)
  have HW := Lib.hid (mask_wrap lo n h2)
  have b1 : 0 ≤ hi := by omega
  have b2 : hi ≤ 63 := by omega
  have b3 : (lo : Int) ≤ hi := by omega
  have b4 : hi - (lo : Int) + 1 = (n : Int) := by omega
  have b5 : lo ≤ 63 := by omega
  have H4 := Lib.hid b4
  clear hh h1 h2 b4
  go_enter Tryz.func69, Tryz.ntmps69
  go_wp2
  go_quiet ((go_at_call 70; refine Calls.quiet_of_same ((HL.out _ (by have := H4.out; omega) _).mono fun _ _ h => ⟨h.1, h.2.symm⟩)))
  go_wp2
  go_ret
  refine ⟨ret_int ?_, Fr.drewN (Fr.alloc (Fr.refl w) _) _⟩
  exact HW.out
end Go.Proofs.YtdipnhghdajplaaGreatDoor
