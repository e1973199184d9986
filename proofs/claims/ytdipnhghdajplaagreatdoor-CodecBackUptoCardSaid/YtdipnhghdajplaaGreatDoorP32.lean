/- The first thing that isn't right in a description: Check. -/
import Derived.Test.YtdipnhghdajplaaGreatDoorP30
import Derived.Test.YtdipnhghdajplaaGreatDoorP23c
import Derived.Test.YtdipnhghdajplaaGreatDoorP23d
import Derived.Test.YtdipnhghdajplaaGreatDoorP31
import Derived.Test.YtdipnhghdajplaaGreatDoorP20
import Derived.Test.YtdipnhghdajplaaGreatDoorP04
namespace Go.Proofs.YtdipnhghdajplaaGreatDoor
open Go.RowKit
set_option linter.unusedSimpArgs false
set_option linter.unusedVariables false
def badL (D : Ds) : List Fm → Nat → Option (Nat × Int)
 | [], _ => none
 | f :: r, n => if patN D f.args f.pcs / 8 = 0 then some (n, 52) else if effL (D.env f.args) f.sem = false then some (n, 53) else badL D r (n + 1)
def chkN (D : Ds) : Int × Int := if partsB D = false then (-1, 51) else match badL D D.fms 0 with
 | some (n, e) => ((n : Int), e)
 | none => match clashN D with
   | some n => ((n : Int), 54)
   | none => if linksB D = true then (0, 0) else (-1, 51)
def chkV (D : Ds) : Value := .tuple #[.int .i64 (chkN D).1, .int .i64 (chkN D).2]
theorem badL_none {D : Ds} : ∀ (l : List Fm) (n : Nat), badL D l n = none → ∀ f ∈ l, patN D f.args f.pcs / 8 ≠ 0 ∧ effL (D.env f.args) f.sem = true
 | [], _, _, f, hf => by cases hf
 | g :: r, n, h, f, hf => by
   unfold badL at h
   split at h
   · cases h
   · rename_i h1
     split at h
     · cases h
     · rename_i h2
       rcases List.mem_cons.1 hf with rfl | hf
       · exact ⟨h1, by simpa using h2⟩
       · exact badL_none r (n + 1) h f hf
theorem clV_cases (D : Ds) : (clashN D = none ∧ clV D = .tuple #[.int .i64 0, .bool false]) ∨ (∃ n, clashN D = some n ∧ clV D = .tuple #[.int .i64 (n : Int), .bool true]) := by
 unfold clV
 cases clashN D with
 | none => exact .inl ⟨rfl, rfl⟩
 | some n => exact .inr ⟨n, rfl, rfl⟩
theorem parts_512 {D : Ds} (h : partsB D = true) : D.fms.length ≤ 512 := by
 unfold partsB at h
 simp only [Bool.and_eq_true, decide_eq_true_eq] at h
 omega
def RelCk (D : Ds) (W1 : World) (i : Value) (wr : World) : Prop := ∃ j : Nat, j ≤ D.fms.length ∧ i = .int .i64 (j : Int) ∧ Fr W1 wr ∧ badL D D.fms 0 = badL D (D.fms.drop j) j
set_option maxHeartbeats 25600000 in
set_option maxRecDepth 100000 in
theorem check_any {w : World} {D : Ds} {v : Array Value} (hD : DescAt w D v) (hS : D.Small) (hL : D.Light) :
   Calls Tryz.prog 8 #[.agg v] w fun e w' => e = .returned (chkV D) ∧ Fr w w' := by
 have HD := Lib.hid hD
 have HPA := Lib.hid (fun (w1 : World) (k : Fr w w1) => partsRight_any (hD.fr k) hS)
 have HLK := Lib.hid (fun (w1 : World) (k : Fr w w1) => linksRight_any (hD.fr k) hS)
 have HSZ := Lib.hid (fun (w1 : World) (k : Fr w w1) (n : Nat) (hn : n < D.fms.length) => size_any (hD.fr k) hL n hn)
 have HEF := Lib.hid (fun (w1 : World) (k : Fr w w1) (n : Nat) (hn : n < D.fms.length) => effectsRight_any (hD.fr k) n hn)
 have HFC := Lib.hid (fun (w1 : World) (k : Fr w w1) => firstClash_any (hD.fr k) hL)
 obtain ⟨s0, Fa, Ba, Ga, Ca, Ma, Ra, Ua, Xa, Ka, Na, Pa, fc, bc, gc, cc, mc, rc, uc, xc, kc, nl, nc, pc, rfl, h1, h2, h3, h4, h5, h6, h7, h8, h9⟩ := hD
 have HDV := Lib.hid (show BlkAt (w.alloc (.cells #[.string s0, .int .i64 D.order, .slice Fa D.files.length fc, .slice Ba D.als.length bc, .slice Ga D.nflags gc, .slice Ca D.cls.length cc, .slice Ma D.fms.length mc, .slice Ra D.rels.length rc, .slice Ua D.uses.length uc, .slice Xa D.rxs.length xc, .slice Ka D.mcs.length kc, .slice Na nl nc, .slice Pa D.regs.length pc] 33)) w.heap.size [.string s0, .int .i64 D.order, .slice Fa D.files.length fc, .slice Ba D.als.length bc, .slice Ga D.nflags gc, .slice Ca D.cls.length cc, .slice Ma D.fms.length mc, .slice Ra D.rels.length rc, .slice Ua D.uses.length uc, .slice Xa D.rxs.length xc, .slice Ka D.mcs.length kc, .slice Na nl nc, .slice Pa D.regs.length pc] from BlkAt.alloc)
 have HF1 := Lib.hid (show Fr w (w.alloc (.cells #[.string s0, .int .i64 D.order, .slice Fa D.files.length fc, .slice Ba D.als.length bc, .slice Ga D.nflags gc, .slice Ca D.cls.length cc, .slice Ma D.fms.length mc, .slice Ra D.rels.length rc, .slice Ua D.uses.length uc, .slice Xa D.rxs.length xc, .slice Ka D.mcs.length kc, .slice Na nl nc, .slice Pa D.regs.length pc] 33)) from Fr.alloc (Fr.refl w) _)
 obtain ⟨cv, hcv⟩ : ∃ cv, chkV D = cv := ⟨_, rfl⟩
 rw [hcv]
 have HCV := Lib.hid hcv
 have hfl : D.fms.length ≤ maxLen := hS.2.2.2.2.1
 have hml : D.fms.length ≤ 9223372036854775807 := Nat.le_trans hfl (by decide)
 clear hcv h1 h2 h3 h4 h5 h6 h7 h8 h9 hS hL hfl
 go_enter Tryz.func8, Tryz.ntmps8
 go_wp2_with fail
 generalize World.alloc w _ = W1 at *
 refine (HPA.out _ HF1.out).mono ?_
 rintro e w4 ⟨rfl, hf4⟩
 have HF4 := Lib.hid hf4
 clear hf4
 obtain ⟨pb, hpb⟩ : ∃ pb, partsB D = pb := ⟨_, rfl⟩
 have HPB := Lib.hid hpb
 rw [hpb]
 clear hpb
 cases pb with
 | false =>
   have HV := Lib.hid (show cv = .tuple #[.int .i64 (-1), .int .i64 51] by rw [← HCV.out]; unfold chkV chkN; rw [if_pos HPB.out])
   go_wp2
   go_ret2
   exact ⟨by rw [HV.out]; rfl, HF1.out.call HF4.out⟩
 | true =>
   have d6 := HDV.out.fr HF4.out 6 _ rfl
   have zd := lt_of_cell d6
   go_wp2_with fail
   clear d6 zd
   go_loopw [13] (fun i wr => RelCk D W1 i wr) (fun i _ => D.fms.length - (intOf i).toNat)
   case atStart => exact ⟨0, Nat.zero_le _, rfl, HF4.out, by rw [List.drop_zero]⟩
   case round =>
     obtain ⟨j, hj, rfl, hf, hb⟩ := hrel
     have HF := Lib.hid hf
     have HB := Lib.hid hb
     by_cases hlt : j < D.fms.length
     · have HDR := Lib.hid (List.drop_eq_getElem_cons hlt)
       have hji : (j : Int) < (D.fms.length : Int) := by omega
       have HSZ1 := Lib.hid (fun (w1 : World) (k : Fr w w1) => HSZ.out w1 k j hlt)
       have HEF1 := Lib.hid (fun (w1 : World) (k : Fr w w1) => HEF.out w1 k j hlt)
       rw [HDR.out] at hb
       have HB1 := Lib.hid (show badL D D.fms 0 = (if patN D D.fms[j].args D.fms[j].pcs / 8 = 0 then some (j, 52) else if effL (D.env D.fms[j].args) D.fms[j].sem = false then some (j, 53) else badL D (D.fms.drop (j + 1)) (j + 1)) from hb)
       generalize patN D (D.fms[j]).args (D.fms[j]).pcs / 8 = sz at *
       generalize effL (D.env (D.fms[j]).args) (D.fms[j]).sem = ef at *
       have d0 := (HDV.out.fr HF.out) 0 _ rfl; have d1 := (HDV.out.fr HF.out) 1 _ rfl; have d2 := (HDV.out.fr HF.out) 2 _ rfl; have d3 := (HDV.out.fr HF.out) 3 _ rfl; have d4 := (HDV.out.fr HF.out) 4 _ rfl; have d5 := (HDV.out.fr HF.out) 5 _ rfl; have d6 := (HDV.out.fr HF.out) 6 _ rfl; have d7 := (HDV.out.fr HF.out) 7 _ rfl; have d8 := (HDV.out.fr HF.out) 8 _ rfl; have d9 := (HDV.out.fr HF.out) 9 _ rfl; have d10 := (HDV.out.fr HF.out) 10 _ rfl; have d11 := (HDV.out.fr HF.out) 11 _ rfl; have d12 := (HDV.out.fr HF.out) 12 _ rfl; have zd := lt_of_cell d0
       clear hf hb
       go_wp2_with fail
       refine (HSZ1.out _ (HF1.out.call HF.out)).mono ?_
       rintro e w5 ⟨rfl, hf5⟩
       have HF5 := Lib.hid (HF.out.call hf5)
       clear hf5 d0 d1 d2 d3 d4 d5 d6 d7 d8 d9 d10 d11 d12 zd
       by_cases hsz : sz = 0
       · have HV := Lib.hid (show cv = .tuple #[.int .i64 (j : Int), .int .i64 52] by
           rw [← HCV.out]; unfold chkV chkN; rw [if_neg (by rw [HPB.out]; decide), HB1.out, if_pos hsz])
         subst hsz
         go_wp2
         go_ret2
         exact ⟨by rw [HV.out]; rfl, HF1.out.call HF5.out⟩
       · have hsi : ((sz : Int) == 0) = false := by rw [beq_eq_false_iff_ne]; omega
         have hsz2 : ¬ (sz : Int) = 0 := by omega
         rw [if_neg hsz] at HB1
         have d0 := (HDV.out.fr HF5.out) 0 _ rfl; have d1 := (HDV.out.fr HF5.out) 1 _ rfl; have d2 := (HDV.out.fr HF5.out) 2 _ rfl; have d3 := (HDV.out.fr HF5.out) 3 _ rfl; have d4 := (HDV.out.fr HF5.out) 4 _ rfl; have d5 := (HDV.out.fr HF5.out) 5 _ rfl; have d6 := (HDV.out.fr HF5.out) 6 _ rfl; have d7 := (HDV.out.fr HF5.out) 7 _ rfl; have d8 := (HDV.out.fr HF5.out) 8 _ rfl; have d9 := (HDV.out.fr HF5.out) 9 _ rfl; have d10 := (HDV.out.fr HF5.out) 10 _ rfl; have d11 := (HDV.out.fr HF5.out) 11 _ rfl; have d12 := (HDV.out.fr HF5.out) 12 _ rfl; have zd := lt_of_cell d0
         go_wp2_with fail
         refine (HEF1.out _ (HF1.out.call HF5.out)).mono ?_
         rintro e w6 ⟨rfl, hf6⟩
         have HF6 := Lib.hid (HF5.out.call hf6)
         clear hf6 d0 d1 d2 d3 d4 d5 d6 d7 d8 d9 d10 d11 d12 zd
         cases ef with
         | false =>
           have HV := Lib.hid (show cv = .tuple #[.int .i64 (j : Int), .int .i64 53] by
             rw [← HCV.out]; unfold chkV chkN; rw [if_neg (by rw [HPB.out]; decide), HB1.out, if_pos rfl])
           go_wp2
           go_ret2
           exact ⟨by rw [HV.out]; rfl, HF1.out.call HF6.out⟩
         | true =>
           have HB2 := Lib.hid (HB1.out.trans (if_neg (by decide)))
           go_wp2
           go_roundw
           case rel => exact ⟨j + 1, by omega, by go_num, HF6.out, HB2.out⟩
           case measure => simp [intOf]; omega
     · obtain rfl : j = D.fms.length := by omega
       rw [List.drop_length] at hb
       have HBN := Lib.hid (show badL D D.fms 0 = none from hb)
       have HAL := Lib.hid (badL_none D.fms 0 hb)
       have HPT := Lib.hid (show ∀ f ∈ D.fms, patN D f.args f.pcs ≠ 0 from fun f hf h0 => (HAL.out f hf).1 (by rw [h0]))
       have h512 : D.fms.length ≤ 512 := parts_512 HPB.out
       have d0 := (HDV.out.fr HF.out) 0 _ rfl; have d1 := (HDV.out.fr HF.out) 1 _ rfl; have d2 := (HDV.out.fr HF.out) 2 _ rfl; have d3 := (HDV.out.fr HF.out) 3 _ rfl; have d4 := (HDV.out.fr HF.out) 4 _ rfl; have d5 := (HDV.out.fr HF.out) 5 _ rfl; have d6 := (HDV.out.fr HF.out) 6 _ rfl; have d7 := (HDV.out.fr HF.out) 7 _ rfl; have d8 := (HDV.out.fr HF.out) 8 _ rfl; have d9 := (HDV.out.fr HF.out) 9 _ rfl; have d10 := (HDV.out.fr HF.out) 10 _ rfl; have d11 := (HDV.out.fr HF.out) 11 _ rfl; have d12 := (HDV.out.fr HF.out) 12 _ rfl; have zd := lt_of_cell d0
       clear hf hb
       go_wp2_with fail
       refine (HFC.out _ (HF1.out.call HF.out) HPT.out h512).mono ?_
       rintro e w5 ⟨rfl, hf5⟩
       have HF5 := Lib.hid (HF.out.call hf5)
       clear hf5 d0 d1 d2 d3 d4 d5 d6 d7 d8 d9 d10 d11 d12 zd
       rcases clV_cases D with ⟨hc, hv⟩ | ⟨n, hc, hv⟩
       · rw [hv]
         have HC := Lib.hid hc
         clear hv hc
         have d0 := (HDV.out.fr HF5.out) 0 _ rfl; have d1 := (HDV.out.fr HF5.out) 1 _ rfl; have d2 := (HDV.out.fr HF5.out) 2 _ rfl; have d3 := (HDV.out.fr HF5.out) 3 _ rfl; have d4 := (HDV.out.fr HF5.out) 4 _ rfl; have d5 := (HDV.out.fr HF5.out) 5 _ rfl; have d6 := (HDV.out.fr HF5.out) 6 _ rfl; have d7 := (HDV.out.fr HF5.out) 7 _ rfl; have d8 := (HDV.out.fr HF5.out) 8 _ rfl; have d9 := (HDV.out.fr HF5.out) 9 _ rfl; have d10 := (HDV.out.fr HF5.out) 10 _ rfl; have d11 := (HDV.out.fr HF5.out) 11 _ rfl; have d12 := (HDV.out.fr HF5.out) 12 _ rfl; have zd := lt_of_cell d0
         go_wp2_with fail
         refine (HLK.out _ (HF1.out.call HF5.out)).mono ?_
         rintro e w6 ⟨rfl, hf6⟩
         have HF6 := Lib.hid (HF5.out.call hf6)
         clear hf6 d0 d1 d2 d3 d4 d5 d6 d7 d8 d9 d10 d11 d12 zd
         obtain ⟨lb, hlb⟩ : ∃ lb, linksB D = lb := ⟨_, rfl⟩
         have HLB := Lib.hid hlb
         rw [hlb]
         clear hlb
         cases lb with
         | false =>
           have HV := Lib.hid (show cv = .tuple #[.int .i64 (-1), .int .i64 51] by
             rw [← HCV.out]; unfold chkV chkN; rw [if_neg (by rw [HPB.out]; decide), HBN.out, HC.out]; dsimp only; rw [if_neg (by rw [HLB.out]; decide)])
           go_wp2
           go_ret2
           exact ⟨by rw [HV.out]; rfl, HF1.out.call HF6.out⟩
         | true =>
           have HV := Lib.hid (show cv = .tuple #[.int .i64 0, .int .i64 0] by
             rw [← HCV.out]; unfold chkV chkN; rw [if_neg (by rw [HPB.out]; decide), HBN.out, HC.out]; dsimp only; rw [if_pos HLB.out])
           go_wp2
           go_ret2
           exact ⟨by rw [HV.out]; rfl, HF1.out.call HF6.out⟩
       · rw [hv]
         have HV := Lib.hid (show cv = .tuple #[.int .i64 (n : Int), .int .i64 54] by
           rw [← HCV.out]; unfold chkV chkN; rw [if_neg (by rw [HPB.out]; decide), HBN.out, hc])
         clear hv hc
         go_wp2
         go_ret2
         exact ⟨by rw [HV.out]; rfl, HF1.out.call HF5.out⟩
theorem plc_inj {o : Int} {s s' n : Nat} (h : s < n) (h' : s' < n) (e : plcN o s n = plcN o s' n) : s = s' := by
 unfold plcN at e; split at e <;> omega
theorem plc_lt {o : Int} {s n : Nat} (h : s < n) (h8 : n % 8 = 0) : plcN o s n < n := by
 unfold plcN; split <;> omega
theorem plc_back {o : Int} {s n : Nat} (h : s < n) (h8 : n % 8 = 0) : plcN o (plcN o s n) n = s := by
 unfold plcN; split <;> omega
abbrev W2 := Nat × Nat
def hasW (x : W2) (p : Nat) : Bool := hasN x.1 x.2 p
def setW (x : W2) (q : Nat) : W2 := if q < 64 then (addN x.1 q, x.2) else (x.1, addN x.2 q)
theorem hasW_set (x : W2) {q p : Nat} (hp : p < 128) (hq : q < 128) : hasW (setW x q) p = (hasW x p || decide (p = q)) := by
 unfold hasW setW hasN
 by_cases h1 : q < 64
 · by_cases h2 : p < 64
   · simp only [h1, h2, if_true]
     unfold addN
     rw [Nat.testBit_or, Nat.testBit_two_pow]
     congr 1
     exact decide_eq_decide.2 (by omega)
   · simp only [h1, h2, if_true, if_false]
     rw [decide_eq_false (by omega), Bool.or_false]
 · by_cases h2 : p < 64
   · simp only [h1, h2, if_true, if_false]
     rw [decide_eq_false (by omega), Bool.or_false]
   · simp only [h1, h2, if_false]
     unfold addN
     rw [Nat.testBit_or, Nat.testBit_two_pow]
     congr 1
     exact decide_eq_decide.2 (by omega)
theorem setW_lt {x : W2} (h1 : x.1 < 18446744073709551616) (h2 : x.2 < 18446744073709551616) (q : Nat) : (setW x q).1 < 18446744073709551616 ∧ (setW x q).2 < 18446744073709551616 := by
 unfold setW; split
 · exact ⟨addN_lt h1, h2⟩
 · exact ⟨h1, addN_lt h2⟩
theorem hasW_ext {a b c d : Nat} (ha : a < 18446744073709551616) (hb : b < 18446744073709551616) (hc : c < 18446744073709551616) (hd : d < 18446744073709551616) (h : ∀ p, p < 128 → hasN a b p = hasN c d p) : a = c ∧ b = d := by
 have key : ∀ x y : Nat, x < 18446744073709551616 → y < 18446744073709551616 → (∀ i, i < 64 → x.testBit i = y.testBit i) → x = y := fun x y hx hy h1 => by
   apply Nat.eq_of_testBit_eq
   intro i
   rcases Nat.lt_or_ge i 64 with h2 | h2
   · exact h1 i h2
   · have h3 : 18446744073709551616 ≤ 2 ^ i := by
       have : 2 ^ 64 ≤ 2 ^ i := Nat.pow_le_pow_right (by decide) h2
       simpa using this
     rw [Nat.testBit_lt_two_pow (Nat.lt_of_lt_of_le hx h3), Nat.testBit_lt_two_pow (Nat.lt_of_lt_of_le hy h3)]
 refine ⟨key a c ha hc fun i hi => ?_, key b d hb hd fun i hi => ?_⟩
 · have := h i (by omega)
   unfold hasN at this
   rw [if_pos hi, if_pos hi, Nat.mod_eq_of_lt hi] at this; exact this
 · have := h (64 + i) (by omega)
   have hm : (64 + i) % 64 = i := by omega
   unfold hasN at this
   rw [if_neg (by omega), if_neg (by omega), hm] at this; exact this
theorem hasN_and (a b c d p : Nat) : hasN (a &&& c) (b &&& d) p = (hasN a b p && hasN c d p) := by
 unfold hasN; split <;> exact Nat.testBit_and _ _ _
theorem cLit_has (f : Cf) {q p : Nat} (hp : p < 128) (hq : q < 128) : hasN (cLit f q).l0 (cLit f q).l1 p = (hasN f.l0 f.l1 p || decide (p = q)) := by
 have := hasW_set (f.l0, f.l1) hp hq
 unfold hasW setW at this
 unfold cLit
 split <;> rename_i h <;> simp only [h, if_true, if_false] at this ⊢ <;> exact this
theorem cOne_has (f : Cf) {q p : Nat} (hp : p < 128) (hq : q < 128) : hasN (cOne f q).u0 (cOne f q).u1 p = (hasN f.u0 f.u1 p || decide (p = q)) := by
 have := hasW_set (f.u0, f.u1) hp hq
 unfold hasW setW at this
 unfold cOne
 split <;> rename_i h <;> simp only [h, if_true, if_false] at this ⊢ <;> exact this
theorem cLit_else (f : Cf) (q : Nat) : (cLit f q).u0 = f.u0 ∧ (cLit f q).u1 = f.u1 ∧ (cLit f q).ops = f.ops ∧ (cLit f q).canon = f.canon := by unfold cLit; split <;> exact ⟨rfl, rfl, rfl, rfl⟩
theorem cOne_else (f : Cf) (q : Nat) : (cOne f q).l0 = f.l0 ∧ (cOne f q).l1 = f.l1 ∧ (cOne f q).ops = f.ops ∧ (cOne f q).canon = f.canon := by unfold cOne; split <;> exact ⟨rfl, rfl, rfl, rfl⟩
theorem putC_lit (x : Bt) (f : Cf) {q p : Nat} (hp : p < 128) (hq : q < 128) : hasN (putC x q f).l0 (putC x q f).l1 p = true ↔ hasN f.l0 f.l1 p = true ∨ (q = p ∧ x.arg = -1 ∧ x.lit ≠ 120) := by
 unfold putC
 split
 · rename_i ha
   split
   · rename_i hl
     constructor
     · exact .inl
     · rintro (h | ⟨_, _, h⟩)
       · exact h
       · exact absurd hl h
   · rename_i hl
     split
     · rw [cLit_has _ hp hq, (cOne_else f q).1, (cOne_else f q).2.1, Bool.or_eq_true, decide_eq_true_eq]
       constructor
       · rintro (h | h)
         · exact .inl h
         · exact .inr ⟨h.symm, ha, hl⟩
       · rintro (h | h)
         · exact .inl h
         · exact .inr h.1.symm
     · rw [cLit_has _ hp hq, Bool.or_eq_true, decide_eq_true_eq]
       constructor
       · rintro (h | h)
         · exact .inl h
         · exact .inr ⟨h.symm, ha, hl⟩
       · rintro (h | h)
         · exact .inl h
         · exact .inr h.1.symm
 · rename_i ha
   constructor
   · exact .inl
   · rintro (h | ⟨_, h, _⟩)
     · exact h
     · exact absurd h ha
theorem putC_one (x : Bt) (f : Cf) {q p : Nat} (hp : p < 128) (hq : q < 128) : hasN (putC x q f).u0 (putC x q f).u1 p = true ↔ hasN f.u0 f.u1 p = true ∨ (q = p ∧ x.arg = -1 ∧ x.lit = 49) := by
 unfold putC
 split
 · rename_i ha
   split
   · rename_i hl
     constructor
     · exact .inl
     · rintro (h | ⟨_, _, h⟩)
       · exact h
       · omega
   · rename_i hl
     split
     · rename_i hl2
       rw [(cLit_else _ q).1, (cLit_else _ q).2.1, cOne_has _ hp hq, Bool.or_eq_true, decide_eq_true_eq]
       constructor
       · rintro (h | h)
         · exact .inl h
         · exact .inr ⟨h.symm, ha, hl2⟩
       · rintro (h | h)
         · exact .inl h
         · exact .inr h.1.symm
     · rename_i hl2
       rw [(cLit_else _ q).1, (cLit_else _ q).2.1]
       constructor
       · exact .inl
       · rintro (h | ⟨_, _, h⟩)
         · exact h
         · exact absurd h hl2
 · rename_i ha
   constructor
   · exact .inl
   · rintro (h | ⟨_, h, _⟩)
     · exact h
     · exact absurd h ha
theorem putC_canon (x : Bt) (q : Nat) (f : Cf) : (putC x q f).canon = true ↔ f.canon = true ∧ (x.arg = -1 → x.lit ≠ 120) := by
 unfold putC
 split
 · rename_i ha
   split
   · rename_i hl
     constructor
     · intro h; cases h
     · rintro ⟨_, h⟩; exact absurd hl (h ha)
   · rename_i hl
     split
     · rw [(cLit_else _ q).2.2.2, (cOne_else _ q).2.2.2]
       exact ⟨fun h => ⟨h, fun _ => hl⟩, fun h => h.1⟩
     · rw [(cLit_else _ q).2.2.2]
       exact ⟨fun h => ⟨h, fun _ => hl⟩, fun h => h.1⟩
 · rename_i ha
   exact ⟨fun h => ⟨h, fun h2 => absurd h2 ha⟩, fun h => h.1⟩
theorem layC_adds {o : Int} {n p : Nat} (hn : n ≤ 120) (h8 : n % 8 = 0) {G : Cf → Prop} {H : Bt → Prop} (hG : ∀ x f q, q < 128 → (G (putC x q f) ↔ G f ∨ (q = p ∧ H x))) : ∀ (l : List Bt) (wr : Nat) (f : Cf), wr + l.length = n →
   (G (layC o n l wr f) ↔ G f ∨ ∃ (i : Nat) (x : Bt), l[i]? = some x ∧ plcN o (wr + i) n = p ∧ H x)
 | [], _, f, _ => ⟨.inl, fun h => by
   rcases h with h | ⟨i, x, h, _⟩
   · exact h
   · simp at h⟩
 | y :: r, wr, f, hl => by
   have hq : plcN o wr n < 128 := Nat.lt_trans (plcN_lt (by simp at hl; omega) hn h8) (by decide)
   show G (layC o n r (wr + 1) (putC y (plcN o wr n) f)) ↔ _
   rw [layC_adds hn h8 hG r (wr + 1) _ (by simp at hl; omega), hG y f _ hq]
   constructor
   · rintro ((h | ⟨h1, h2⟩) | ⟨i, x, h1, h2, h3⟩)
     · exact .inl h
     · exact .inr ⟨0, y, rfl, h1, h2⟩
     · exact .inr ⟨i + 1, x, by simpa using h1, by rw [show wr + (i + 1) = wr + 1 + i by omega]; exact h2, h3⟩
   · rintro (h | ⟨i, x, h1, h2, h3⟩)
     · exact .inl (.inl h)
     · match i, h1, h2 with
       | 0, h1, h2 =>
         obtain rfl : y = x := by simpa using h1
         exact .inl (.inr ⟨h2, h3⟩)
       | i + 1, h1, h2 => exact .inr ⟨i, x, by simpa using h1, by rw [show wr + 1 + i = wr + (i + 1) by omega]; exact h2, h3⟩
theorem layC_canon {o : Int} {n : Nat} : ∀ (l : List Bt) (wr : Nat) (f : Cf), (layC o n l wr f).canon = true ↔ f.canon = true ∧ ∀ x ∈ l, x.arg = -1 → x.lit ≠ 120
 | [], _, f => by simp [layC]
 | y :: r, wr, f => by
   show (layC o n r (wr + 1) (putC y (plcN o wr n) f)).canon = true ↔ _
   rw [layC_canon r (wr + 1), putC_canon]
   simp only [List.mem_cons, forall_eq_or_imp, and_assoc]
theorem layC_size {o : Int} {n : Nat} : ∀ (l : List Bt) (wr : Nat) (f : Cf), (layC o n l wr f).size = f.size
 | [], _, f => rfl
 | y :: r, wr, f => by
   show (layC o n r (wr + 1) (putC y (plcN o wr n) f)).size = _
   rw [layC_size r (wr + 1), putC_size]
theorem layC_ok {o : Int} {n : Nat} : ∀ (l : List Bt) (wr : Nat) (f : Cf), CfOk f → CfOk (layC o n l wr f)
 | [], _, f, h => h
 | y :: r, wr, f, h => layC_ok r (wr + 1) _ (putC_ok h y _)
def clO (D : Ds) (x : Int × List Int) : Cl × List Int := ((D.cls[x.1.toNat]?).getD ⟨0, 0, 0, 0, 0, []⟩, x.2)
theorem putC_ops {D : Ds} {x : Bt} {q : Nat} {L : Ly} {f : Cf} (h : L.ops = f.ops.map (clO D)) : (putB x q L).ops = (putC x q f).ops.map (clO D) := by
 unfold putB putC
 split
 · have e1 : (if x.lit = 48 then addZ L q else if x.lit = 49 then addU L q else L).ops = L.ops := by
     split
     · exact (addZ_else L q).2.2
     · split
       · exact (addU_else L q).2.2
       · rfl
   have e2 : (if x.lit = 120 then { f with canon := false } else if x.lit = 49 then cLit (cOne f q) q else cLit f q).ops = f.ops := by
     split
     · rfl
     · split
       · rw [(cLit_else _ q).2.2.1, (cOne_else _ q).2.2.1]
       · exact (cLit_else _ q).2.2.1
   rw [e1, e2, h]
 · unfold putO cArg
   simp only [h]
   apply List.ext_getElem?
   intro i
   simp only [List.getElem?_modify, List.getElem?_map]
   by_cases hi : x.arg.toNat = i
   · simp only [hi, if_true]
     cases f.ops[i]? <;> simp [clO]
   · simp only [hi, if_false]
     cases f.ops[i]? <;> simp
theorem layC_ops {D : Ds} {o : Int} {n : Nat} : ∀ (l : List Bt) (wr : Nat) (L : Ly) (f : Cf), L.ops = f.ops.map (clO D) → (layB o n l wr L).ops = (layC o n l wr f).ops.map (clO D)
 | [], _, _, _, h => h
 | x :: r, wr, L, f, h => layC_ops r (wr + 1) _ _ (putC_ops h)
theorem putC_cls (x : Bt) (q : Nat) (f : Cf) : (putC x q f).ops.map (·.1) = f.ops.map (·.1) := by
 unfold putC
 split
 · have e2 : (if x.lit = 120 then { f with canon := false } else if x.lit = 49 then cLit (cOne f q) q else cLit f q).ops = f.ops := by
     split
     · rfl
     · split
       · rw [(cLit_else _ q).2.2.1, (cOne_else _ q).2.2.1]
       · exact (cLit_else _ q).2.2.1
   rw [e2]
 · unfold cArg
   apply List.ext_getElem?
   intro i
   simp only [List.getElem?_modify, List.getElem?_map]
   by_cases hi : x.arg.toNat = i
   · simp only [hi, if_true]
     cases f.ops[i]? <;> simp
   · simp only [hi, if_false]
     cases f.ops[i]? <;> simp
theorem layC_cls {o : Int} {n : Nat} : ∀ (l : List Bt) (wr : Nat) (f : Cf), (layC o n l wr f).ops.map (·.1) = f.ops.map (·.1)
 | [], _, f => rfl
 | y :: r, wr, f => by
   show (layC o n r (wr + 1) (putC y (plcN o wr n) f)).ops.map (·.1) = _
   rw [layC_cls r (wr + 1), putC_cls]
def clcV (c : Cl) (A : Option Addr) (n : Nat) : List Value := [.bool (sgC c.kind), .int .i64 c.bits, .int .i64 c.shift, .int .i64 c.plus, .slice A c.ex.length n]
def ClcF (w : World) (cs : List Value) (c : Cl) : Prop := ∃ (A : Option Addr) (n : Nat), cs = clcV c A n ∧ RowOf IntC 1 w A c.ex
def CfF (w : World) (cs : List Value) (f : Cf) : Prop := ∃ (A : Option Addr) (n : Nat), cs = cfV f A f.ops.length n ∧ RowOf OcRd 2 w A f.ops
def ClcAt (w : World) (b o : Nat) (c : Cl) : Prop := ∃ (A : Option Addr) (n : Nat), (∀ (j : Nat) (v : Value), (clcV c A n)[j]? = some v → w.cell? ⟨b, o + j, none⟩ = some v) ∧ RowOf IntC 1 w A c.ex
def CfRd (w : World) (b o : Nat) (f : Cf) : Prop := ∃ (A : Option Addr) (n : Nat), (∀ (j : Nat) (v : Value), (cfV f A f.ops.length n)[j]? = some v → w.cell? ⟨b, o + j, none⟩ = some v) ∧ RowOf OcRd 2 w A f.ops
theorem ClcAt.fr {w w' : World} {b o : Nat} {c : Cl} (h : ClcAt w b o c) (k : Fr w w') : ClcAt w' b o c := by
 obtain ⟨A, n, h1, h2⟩ := h
 exact ⟨A, n, fun j v hv => k.get (h1 j v hv), h2.fr fun _ _ _ x => IntC.fr x k⟩
theorem CfRd.fr {w w' : World} {b o : Nat} {f : Cf} (h : CfRd w b o f) (k : Fr w w') : CfRd w' b o f := by
 obtain ⟨A, n, h1, h2⟩ := h
 exact ⟨A, n, fun j v hv => k.get (h1 j v hv), h2.fr fun _ _ _ x => x.fr k⟩
def cfD (D : Ds) (f : Fm) : Cf := layCD D f.args f.pcs
def CodecAt (w : World) (p : Nat) (D : Ds) : Prop := ∃ (CA FA : Option Addr) (cc fc : Nat), BlkAt w p [.slice CA D.cls.length cc, .slice FA D.fms.length fc] ∧ RowOf ClcAt 5 w CA D.cls ∧ RowOf CfRd 7 w FA (D.fms.map (cfD D))
theorem CodecAt.fr {w w' : World} {p : Nat} {D : Ds} (h : CodecAt w p D) (k : Fr w w') : CodecAt w' p D := by
 obtain ⟨CA, FA, cc, fc, h1, h2, h3⟩ := h
 exact ⟨CA, FA, cc, fc, h1.fr k, h2.fr fun _ _ _ x => x.fr k, h3.fr fun _ _ _ x => x.fr k⟩
def RelN1 (D : Ds) (W4 : World) (cb : Nat) (i : Value) (wr : World) : Prop := ∃ (css : List (List Value)) (O : Option Addr) (oc : Nat), css.length ≤ D.cls.length ∧ i = .int .i64 (css.length : Int) ∧ Fr W4 wr ∧
 wr.cell? ⟨cb, 0, none⟩ = some (.slice O css.length oc) ∧ wr.cell? ⟨cb, 1, none⟩ = some (.slice none 0 0) ∧ (∀ k, wr.frozen? ⟨cb, k, none⟩ = false) ∧ GRow ClcF 89 5 (cb + 1) wr (.slice O css.length oc) css (D.cls.take css.length) ∧ cb + 1 ≤ wr.heap.size
def RelN2 (D : Ds) (W4 Wb : World) (cb : Nat) (CA : Option Addr) (cc : Nat) (i : Value) (wr : World) : Prop := ∃ (css : List (List Value)) (O : Option Addr) (oc : Nat), css.length ≤ D.fms.length ∧ i = .int .i64 (css.length : Int) ∧ Fr W4 wr ∧
 wr.cell? ⟨cb, 0, none⟩ = some (.slice CA D.cls.length cc) ∧ wr.cell? ⟨cb, 1, none⟩ = some (.slice O css.length oc) ∧ (∀ k, wr.frozen? ⟨cb, k, none⟩ = false) ∧ GRow CfF 95 7 Wb.heap.size wr (.slice O css.length oc) css ((D.fms.map (cfD D)).take css.length) ∧
 Wb.heap.size ≤ wr.heap.size ∧ ∀ b, cb < b → b < Wb.heap.size → wr.heap[b]? = Wb.heap[b]?
def NewP (w : World) (D : Ds) (e : Ending) (w' : World) : Prop := (((chkN D).2 ≠ 0 ∧ e = .returned (.tuple #[.pointer none, .int .i64 (chkN D).2])) ∨ ((chkN D).2 = 0 ∧ ∃ p : Nat, e = .returned (.tuple #[.pointer (some ⟨p, 0, none⟩), .int .i64 0]) ∧ CodecAt w' p D)) ∧ Fr w w'
theorem chk_pats {D : Ds} (h : (chkN D).2 = 0) : partsB D = true ∧ ∀ f ∈ D.fms, patN D f.args f.pcs ≠ 0 := by
 unfold chkN at h
 split at h
 · exact absurd h (by decide)
 · rename_i hp
   refine ⟨by simpa using hp, ?_⟩
   cases hb : badL D D.fms 0 with
   | some x =>
     obtain ⟨n, e⟩ := x
     rw [hb] at h
     have h : e = 0 := h
     subst h
     have : ∀ (l : List Fm) (n m : Nat), badL D l n ≠ some (m, 0) := by
       intro l
       induction l with
       | nil => intro n m h2; cases h2
       | cons f r ih =>
         intro n m h2
         unfold badL at h2
         split at h2
         · injection h2 with h2; injection h2 with _ h2; cases h2
         · split at h2
           · injection h2 with h2; injection h2 with _ h2; cases h2
           · exact ih _ _ h2
     exact absurd hb (this _ _ _)
   | none => exact fun f hf h0 => (badL_none _ _ hb f hf).1 (by rw [h0])
theorem chk_lens {D : Ds} (h : (chkN D).2 = 0) : D.cls.length ≤ 64 ∧ D.fms.length ≤ 512 ∧ ∀ c ∈ D.cls, clsB D c = true := by
 have hp := (chk_pats h).1
 unfold partsB at hp
 simp only [Bool.and_eq_true, decide_eq_true_eq] at hp
 exact ⟨by omega, by omega, fun c hc => List.all_eq_true.1 hp.1.1.2 c hc⟩
theorem new_cell {w' : World} {cb i j : Nat} {v x : Value} (h : w'.cell? ⟨cb, j, none⟩ = some x) (hij : i ≠ j) : (w'.setCell ⟨cb, i, none⟩ v).cell? ⟨cb, j, none⟩ = some x := by
 rw [World.cell?_setCell_other _ _ _ _ (by intro e; injection e with _ e; exact hij e)]; exact h
theorem new_cells {base i j cb : Nat} {W w' : World} {sv sv' a b : Value} (hg : W.grownBy w' sv.ownBlock) (hne : sv.ownBlock ≠ some cb) (ca : W.cell? ⟨cb, i, none⟩ = some a) (cbb : W.cell? ⟨cb, j, none⟩ = some b) (hij : i ≠ j) (hf : ∀ k, W.frozen? ⟨cb, k, none⟩ = false) :
   (w'.setCell ⟨cb, i, none⟩ sv').cell? ⟨cb, i, none⟩ = some sv' ∧ (w'.setCell ⟨cb, i, none⟩ sv').cell? ⟨cb, j, none⟩ = some b ∧ ∀ k, (w'.setCell ⟨cb, i, none⟩ sv').frozen? ⟨cb, k, none⟩ = false := by
 have hlt := lt_of_cell ca
 have e : w'.heap[cb]? = W.heap[cb]? := World.grownBy.block hg cb hlt (fun e => hne e.symm)
 exact ⟨World.cell?_setCell_same _ _ _ ((cell_of_heap e).trans ca), new_cell ((cell_of_heap e).trans cbb) hij, fun k => by rw [World.frozen?_setCell, froz_heap e]; exact hf k⟩
theorem take_one {α : Type} {l : List α} {j : Nat} (h : j < l.length) : l.take j ++ [l[j]] = l.take (j + 1) := (List.take_succ_eq_append_getElem h).symm
set_option maxHeartbeats 25600000 in
set_option maxRecDepth 100000 in
theorem new_any {w : World} {D : Ds} {v : Array Value} (hD : DescAt w D v) (hS : D.Small) (hL : D.Light) (hX : ∀ c ∈ D.cls, c.ex.length ≤ 1048576) :
   Calls Tryz.prog 11 #[.agg v] w fun e w' => NewP w D e w' := by
 have HCK := Lib.hid (fun (w1 : World) (k : Fr w w1) => check_any (hD.fr k) hS hL)
 have HLY := Lib.hid (fun (w1 : World) (k : Fr w w1) (n : Nat) (hn : n < D.fms.length) (hp : patN D (D.fms[n]).args (D.fms[n]).pcs ≠ 0) => clay_any hD k hL n hn hp)
 have HXL := Lib.hid hX
 obtain ⟨s0, Fa, Ba, Ga, Ca, Ma, Ra, Ua, Xa, Ka, Na, Pa, fc, bc, gc, cc, mc, rc, uc, xc, kc, nl, nc, pc, rfl, h1, h2, h3, h4, h5, h6, h7, h8, h9⟩ := hD
 have HC := Lib.hid h3
 have HDV := Lib.hid (show BlkAt (w.alloc (.cells #[.string s0, .int .i64 D.order, .slice Fa D.files.length fc, .slice Ba D.als.length bc, .slice Ga D.nflags gc, .slice Ca D.cls.length cc, .slice Ma D.fms.length mc, .slice Ra D.rels.length rc, .slice Ua D.uses.length uc, .slice Xa D.rxs.length xc, .slice Ka D.mcs.length kc, .slice Na nl nc, .slice Pa D.regs.length pc] 33)) w.heap.size [.string s0, .int .i64 D.order, .slice Fa D.files.length fc, .slice Ba D.als.length bc, .slice Ga D.nflags gc, .slice Ca D.cls.length cc, .slice Ma D.fms.length mc, .slice Ra D.rels.length rc, .slice Ua D.uses.length uc, .slice Xa D.rxs.length xc, .slice Ka D.mcs.length kc, .slice Na nl nc, .slice Pa D.regs.length pc] from BlkAt.alloc)
 have HF1 := Lib.hid (show Fr w (w.alloc (.cells #[.string s0, .int .i64 D.order, .slice Fa D.files.length fc, .slice Ba D.als.length bc, .slice Ga D.nflags gc, .slice Ca D.cls.length cc, .slice Ma D.fms.length mc, .slice Ra D.rels.length rc, .slice Ua D.uses.length uc, .slice Xa D.rxs.length xc, .slice Ka D.mcs.length kc, .slice Na nl nc, .slice Pa D.regs.length pc] 33)) from Fr.alloc (Fr.refl w) _)
 clear h1 h2 h3 h4 h5 h6 h7 h8 h9 hL hS hX
 go_enter Tryz.func11, Tryz.ntmps11
 go_wp2_with fail
 generalize World.alloc w _ = W1 at *
 refine (HCK.out _ HF1.out).mono ?_
 rintro e w4 ⟨rfl, hf4⟩
 have HF4 := Lib.hid hf4
 clear hf4
 have HKO := Lib.hid (fun h => chk_pats (D := D) h)
 have HKL := Lib.hid (fun h => chk_lens (D := D) h)
 have HNP := Lib.hid (fun (e : Ending) (w' : World) (h : (((chkN D).2 ≠ 0 ∧ e = .returned (.tuple #[.pointer none, .int .i64 (chkN D).2])) ∨ ((chkN D).2 = 0 ∧ ∃ p : Nat, e = .returned (.tuple #[.pointer (some ⟨p, 0, none⟩), .int .i64 0]) ∧ CodecAt w' p D)) ∧ Fr w w') => (show NewP w D e w' from h))
 obtain ⟨c1, hc1⟩ : ∃ c1, (chkN D).1 = c1 := ⟨_, rfl⟩
 obtain ⟨c2, hc2⟩ : ∃ c2, (chkN D).2 = c2 := ⟨_, rfl⟩
 rw [show chkV D = .tuple #[.int .i64 c1, .int .i64 c2] by unfold chkV; rw [hc1, hc2]]
 rw [hc2] at HKO HKL HNP
 clear hc1 hc2
 by_cases h0 : c2 = 0
 · subst h0
   have hlen := HKL.out (by trivial)
   have HLEN := Lib.hid hlen
   have HPAT := Lib.hid (HKO.out (by trivial)).2
   clear hlen
   have HB0 := Lib.hid (show BlkAt (w4.alloc (.cells #[.slice none 0 0, .slice none 0 0] 87)) w4.heap.size [.slice none 0 0, .slice none 0 0] from BlkAt.alloc)
   have HZ0 := Lib.hid (show ∀ k, (w4.alloc (.cells #[.slice none 0 0, .slice none 0 0] 87)).frozen? ⟨w4.heap.size, k, none⟩ = false from fun k => World.frozen?_alloc_at _ _ _ _ rfl)
   have HF5 := Lib.hid (show Fr w4 (w4.alloc (.cells #[.slice none 0 0, .slice none 0 0] 87)) from Fr.alloc (Fr.refl _) _)
   have HS5 := Lib.hid (show (w4.alloc (.cells #[.slice none 0 0, .slice none 0 0] 87)).heap.size = w4.heap.size + 1 by simp)
   have d5 := HDV.out.fr HF4.out 5 _ rfl
   have zd := lt_of_cell d5
   go_wp2_with fail
   generalize World.alloc w4 _ = W5 at *
   obtain ⟨m0, hm0⟩ : ∃ m, w.heap.size = m := ⟨_, rfl⟩
   obtain ⟨cb, hcb0⟩ : ∃ cb, w4.heap.size = cb := ⟨_, rfl⟩
   have HM0 := Lib.hid hm0
   have HCB := Lib.hid hcb0
   rw [hm0] at HDV
   rw [hcb0] at HB0 HZ0 HS5
   (try simp only [hm0, hcb0])
   clear hm0 hcb0 d5 zd
   go_loopw [23] (fun i wr => RelN1 D w4 cb i wr) (fun i _ => D.cls.length - (intOf i).toNat)
   case atStart =>
     exact ⟨[], none, 0, Nat.zero_le _, rfl, HF5.out, HB0.out 0 _ rfl, HB0.out 1 _ rfl, HZ0.out, GRow.nil _, by rw [HS5.out]; exact Nat.le_refl _⟩
   case round =>
     obtain ⟨css, O, oc, hj, rfl, hf, k0, k1, kz, hG, hsz⟩ := hrel
     have HF := Lib.hid hf
     have HK0 := Lib.hid k0
     have HK1 := Lib.hid k1
     have HKZ := Lib.hid kz
     have HG := Lib.hid hG
     have HSZ := Lib.hid hsz
     clear hf k1 kz hG k0
     obtain ⟨j, hj0⟩ : ∃ j, css.length = j := ⟨_, rfl⟩
     have HJ := Lib.hid hj0
     rw [hj0] at hj HK0
     simp only [hj0]
     clear hj0
     by_cases hlt : j < D.cls.length
     · have hji : (j : Int) < (D.cls.length : Int) := by omega
       have HTK := Lib.hid (take_one hlt)
       have HXJ := Lib.hid (HXL.out _ (List.getElem_mem hlt))
       obtain ⟨bq, oq, rfl, hx⟩ := (HC.out.fr fun _ _ _ x => x.fr (HF1.out.call (HF4.out.call HF.out))).at hlt
       rw [Nat.mul_comm 7 j] at hx
       generalize D.cls[j] = k at *
       obtain ⟨kind, file, bits, shift, plus, ex⟩ := k
       obtain ⟨n0, E, ec, y0, r1, y1, r2, y2, r3, y3, r4, y4, r5, y5, r6, r7, y6, hex⟩ := hx
       simp only at y1 y2 y3 y4 y5 y6 hex r6
       have zq := lt_of_cell y0
       have HF6 := Lib.hid (show Fr wr (wr.alloc (.cells #[.string n0, .int .i64 kind, .int .i64 file, .int .i64 bits, .int .i64 shift, .int .i64 plus, .slice E ex.length ec] 64)) from Fr.alloc (Fr.refl wr) _)
       have HK6 := Lib.hid (BlkAt.alloc (w := wr) (t := 64) (cs := #[.string n0, .int .i64 kind, .int .i64 file, .int .i64 bits, .int .i64 shift, .int .i64 plus, .slice E ex.length ec]))
       have HEX := Lib.hid hex
       clear r1 r2 r3 r4 r5 r6 r7 hex
       go_wp2
       generalize World.alloc wr _ = W6 at *
       have hj9 := HJ.out
       have hg := HG.out
       have hsz6 := HF6.out.size
       have hl64 := HLEN.out.1
       have hsz9 := HSZ.out
       refine cnew8 _ _ _ _ _ _ _ _ _ _ _ _ _ _ _ _ _ _ _ _ _ _ _ _ _ _ _ _ _ _ _ _ _ _ _ _ _ _ _ _ _ _ _ _ _ _ _ _ _ _ _ _ _ _ _ _ _ _ cb wr.heap.size n0 kind file bits shift plus E ex ec O j oc (HF6.out.get HK0.out) HK6.out (cb + 1) css.flatten ?own (by omega) (by omega) ?nk ?base ?frz ?call_ ?end_
       case own => subst hj9; exact ownsRow_fr hg.row HF6.out
       case nk =>
         intro e
         have := (World.ownsRow.lt hg.row wr.heap.size (by subst hj9; exact e)).2
         omega
       case base => omega
       case frz => exact HF6.out.free HK0.out (HKZ.out 0)
       case call_ => exact fun w1 k1 => classOf_any n0 kind file bits shift plus E ex ec (HEX.out.fr fun _ _ _ x => x.fr (HF6.out.call k1)) HXJ.out
       case end_ =>
         intro g cap w2 w' A8 c8 x27 x28 x29 x30 x31 x32 x33 x34 x35 x36 x37 hf2 hv hg2
         have hwr : wr.heap.size ≤ W6.heap.size := hsz6
         have k7 := HF6.out.call (hf2.alloc (.cells #[.bool (sgC kind), .int .i64 bits, .int .i64 shift, .int .i64 plus, .slice A8 ex.length c8] 89))
         have hz2 : w2.heap.size ≤ (w2.alloc (.cells #[.bool (sgC kind), .int .i64 bits, .int .i64 shift, .int .i64 plus, .slice A8 ex.length c8] 89)).heap.size := by simp
         have hzz := hf2.size
         have hpart : PartK ClcF (cb + 1) (w2.alloc (.cells #[.bool (sgC kind), .int .i64 bits, .int .i64 shift, .int .i64 plus, .slice A8 ex.length c8] 89)) (.slice O j oc) [.bool (sgC kind), .int .i64 bits, .int .i64 shift, .int .i64 plus, .slice A8 ex.length c8] ⟨kind, file, bits, shift, plus, ex⟩ := by
           refine ⟨W6.heap.size, w2.heap.size, by omega, hz2, fun g0 hg0 => .inl ?_, fun w'' hk => ⟨A8, c8, rfl, hv w'' fun b hb1 hb2 => (hk b hb1 hb2).trans (heap_alloc_old w2 _ hb2)⟩⟩
           have := (World.ownsRow.lt hg.row g0 (by subst hj9; exact hg0)).2
           omega
         have HN := Lib.hid (GRow.next (lb := cb) (o := 0) hg k7 rfl (by subst hj9; exact hpart) (by subst hj9; exact hg2) (Nat.lt_succ_self cb))
         have hne : ∀ b, b < cb + 1 → (Value.slice O j oc).ownBlock ≠ some b := fun b hb e => by
           subst hj9
           have := (World.ownsRow.lt hg.row b e).1
           omega
         have HCL := Lib.hid (new_cells (base := 0) (sv' := .slice (some ⟨g, 0, none⟩) (j + 1) cap) hg2.2.1 (hne cb (Nat.lt_succ_self cb)) (k7.get HK0.out) (k7.get HK1.out) (by decide : (0 : Nat) ≠ 1) (fun k => (k7.cells.2.1 _ k (lt_of_cell HK0.out)).trans (HKZ.out k)))
         have HFN := Lib.hid (show Fr w4 (w'.setCell ⟨cb, 0, none⟩ (.slice (some ⟨g, 0, none⟩) (j + 1) cap)) from Fr.set (Fr.grown (HF.out.call k7) hg2.2.1 (fun k e => by
           have hcb := HCB.out
           rcases Nat.lt_or_ge k w4.heap.size with h | h
           · exact absurd e (hne k (by omega))
           · exact h)) (by have hcb := HCB.out; simp only; omega) _)
         have HZN := Lib.hid (show cb + 1 ≤ (w'.setCell ⟨cb, 0, none⟩ (.slice (some ⟨g, 0, none⟩) (j + 1) cap)).heap.size by have := hg2.2.1.size; simp; omega)
         clear hpart hne hg hg2 hv hf2 k7
         go_wp2
         go_roundw
         case rel =>
           subst hj9
           have hl : (css ++ [[Value.bool (sgC kind), .int .i64 bits, .int .i64 shift, .int .i64 plus, .slice A8 ex.length c8]]).length = css.length + 1 := by simp
           exact ⟨css ++ [[.bool (sgC kind), .int .i64 bits, .int .i64 shift, .int .i64 plus, .slice A8 ex.length c8]], some ⟨g, 0, none⟩, cap, by rw [hl]; omega, by rw [hl]; go_num, HFN.out, by rw [hl]; exact HCL.out.1, HCL.out.2.1, HCL.out.2.2, by rw [hl, ← HTK.out]; exact HN.out, HZN.out⟩
         case measure => simp [intOf]; omega
     · obtain rfl : j = D.cls.length := by omega
       have hD1 := GRow.done (f := ClcAt) HG.out (fun w'' b o cs x hF hc => by
         obtain ⟨A, n, rfl, hr⟩ := hF
         exact ⟨A, n, hc, hr⟩)
       rw [HJ.out, List.take_length] at hD1
       obtain ⟨CA, c5, hsv, hrow⟩ := hD1
       injection hsv with e1 e2 e3
       subst e1 e3
       have HROW := Lib.hid hrow
       have d6 := HDV.out.fr (HF4.out.call HF.out) 6 _ rfl
       have zd := lt_of_cell d6
       clear hrow hj e2
       go_wp2_with fail
       clear d6 zd
       generalize wr = Wb at *
       go_loopw [42] (fun i w' => RelN2 D w4 Wb cb O oc i w') (fun i _ => D.fms.length - (intOf i).toNat)
       case atStart =>
         exact ⟨[], none, 0, Nat.zero_le _, rfl, HF.out, HK0.out, HK1.out, HKZ.out, GRow.nil _, Nat.le_refl _, fun b _ _ => rfl⟩
       case round =>
         obtain ⟨css2, O2, oc2, hj2, rfl, hf2, q0, q1, qz, hG2, hsz2, hkeep⟩ := hrel
         have HF2 := Lib.hid hf2
         have HQ0 := Lib.hid q0
         have HQ1 := Lib.hid q1
         have HQZ := Lib.hid qz
         have HG2 := Lib.hid hG2
         have HSZ2 := Lib.hid hsz2
         have HKP := Lib.hid hkeep
         have hcbW : cb < Wb.heap.size := by have := HSZ.out; omega
         clear hf2 q0 q1 qz hG2 hsz2 hkeep
         obtain ⟨j2, hj20⟩ : ∃ j, css2.length = j := ⟨_, rfl⟩
         have HJ2 := Lib.hid hj20
         rw [hj20] at hj2 HQ1
         simp only [hj20]
         clear hj20
         by_cases hlt : j2 < D.fms.length
         · have hji : (j2 : Int) < (D.fms.length : Int) := by omega
           have HTK := Lib.hid (show (D.fms.map (cfD D)).take j2 ++ [cfD D D.fms[j2]] = (D.fms.map (cfD D)).take (j2 + 1) by
             have h := take_one (l := D.fms.map (cfD D)) (j := j2) (by simpa using hlt)
             rwa [List.getElem_map] at h)
           have HLC := Lib.hid (show ∀ w1, Fr w w1 → Calls Tryz.prog 30 #[.agg #[.string s0, .int .i64 D.order, .slice Fa D.files.length fc, .slice Ba D.als.length bc, .slice Ga D.nflags gc, .slice Ca D.cls.length cc, .slice Ma D.fms.length mc, .slice Ra D.rels.length rc, .slice Ua D.uses.length uc, .slice Xa D.rxs.length xc, .slice Ka D.mcs.length kc, .slice Na nl nc, .slice Pa D.regs.length pc], .int .i64 (j2 : Int)] w1 fun e w' => ∃ O oc, e = .returned (.agg (cfV (cfD D D.fms[j2]) O (cfD D D.fms[j2]).ops.length oc).toArray) ∧ Fr w1 w' ∧ ∀ w'' : World, (∀ b, w1.heap.size ≤ b → b < w'.heap.size → w''.heap[b]? = w'.heap[b]?) → RowOf OcRd 2 w'' O (cfD D D.fms[j2]).ops from
             fun w1 k => (HLY.out w1 k j2 hlt (HPAT.out _ (List.getElem_mem hlt))).mono fun e w' h => by
               obtain ⟨O, oc, h1, h2, _, h3⟩ := h
               exact ⟨O, oc, h1, h2, h3⟩)
           generalize cfD D D.fms[j2] = T at *
           have hl512 := HLEN.out.2.1
           go_wp2
           have hj9 := HJ2.out
           have hg := HG2.out
           have hsz9 := HSZ2.out
           refine cnew13 _ _ _ _ _ _ _ _ _ _ _ _ _ _ _ _ _ _ _ _ _ _ _ _ _ _ _ _ _ _ _ _ _ _ _ _ _ _ _ _ _ _ _ _ _ _ _ _ _ _ _ _ _ _ _ _ _ cb m0 j2 s0 D.order Fa Ba Ga Ca Ma Ra Ua Xa Ka Na Pa D.files.length fc D.als.length bc D.nflags gc D.cls.length cc D.fms.length mc D.rels.length rc D.uses.length uc D.rxs.length xc D.mcs.length kc nl nc D.regs.length pc T O2 j2 oc2 HQ1.out (HDV.out.fr (HF4.out.call HF2.out)) Wb.heap.size css2.flatten ?own (by omega) (by omega) ?nk ?base ?frz ?call_ ?end_
           case own => subst hj9; exact hg.row
           case nk =>
             intro e
             have := (World.ownsRow.lt hg.row m0 (by subst hj9; exact e)).1
             have := lt_of_cell (HDV.out 0 _ rfl)
             have := HF4.out.size
             have := HCB.out
             omega
           case base => omega
           case frz => exact HQZ.out 1
           case call_ => exact fun w1 k1 => HLC.out w1 ((HF1.out.call (HF4.out.call HF2.out)).call k1)
           case end_ =>
             intro g cap w2 w9 A8 c8 x45 x46 x47 x48 x49 x50 x51 x52 x53 x54 x55 x56 hf2 hv hg2
             have k7 := hf2.alloc (.cells (cfV T A8 T.ops.length c8).toArray 95)
             have hz2 : w2.heap.size ≤ (w2.alloc (.cells (cfV T A8 T.ops.length c8).toArray 95)).heap.size := by simp
             have hzz := hf2.size
             have hz4 : (w2.alloc (.cells (cfV T A8 T.ops.length c8).toArray 95)).heap.size ≤ w9.heap.size := hg2.2.1.size
             have hpart : PartK CfF Wb.heap.size (w2.alloc (.cells (cfV T A8 T.ops.length c8).toArray 95)) (.slice O2 j2 oc2) (cfV T A8 T.ops.length c8) T := by
               refine ⟨wr.heap.size, w2.heap.size, by omega, hz2, fun g0 hg0 => .inl ?_, fun w'' hk => ⟨A8, c8, rfl, hv w'' fun b hb1 hb2 => (hk b hb1 hb2).trans (heap_alloc_old w2 _ hb2)⟩⟩
               exact (World.ownsRow.lt hg.row g0 (by subst hj9; exact hg0)).2
             have HN := Lib.hid (GRow.next (lb := cb) (o := 1) hg k7 rfl (by subst hj9; exact hpart) (by subst hj9; exact hg2) hcbW)
             have hne : ∀ b, b < Wb.heap.size → (Value.slice O2 j2 oc2).ownBlock ≠ some b := fun b hb e => by
               subst hj9
               have := (World.ownsRow.lt hg.row b e).1
               omega
             have HCL := Lib.hid (new_cells (base := 0) (sv' := .slice (some ⟨g, 0, none⟩) (j2 + 1) cap) hg2.2.1 (hne cb hcbW) (k7.get HQ1.out) (k7.get HQ0.out) (by decide : (1 : Nat) ≠ 0) (fun k => (k7.cells.2.1 _ k (lt_of_cell HQ1.out)).trans (HQZ.out k)))
             have HFN := Lib.hid (show Fr w4 (w9.setCell ⟨cb, 1, none⟩ (.slice (some ⟨g, 0, none⟩) (j2 + 1) cap)) from Fr.set (Fr.grown (HF2.out.call k7) hg2.2.1 (fun k e => by
               have hcb := HCB.out
               rcases Nat.lt_or_ge k w4.heap.size with h | h
               · exact absurd e (hne k (by omega))
               · exact h)) (by have hcb := HCB.out; simp only; omega) _)
             have HZN := Lib.hid (show Wb.heap.size ≤ (w9.setCell ⟨cb, 1, none⟩ (.slice (some ⟨g, 0, none⟩) (j2 + 1) cap)).heap.size by simp; omega)
             have HKN := Lib.hid (show ∀ b, cb < b → b < Wb.heap.size → (w9.setCell ⟨cb, 1, none⟩ (.slice (some ⟨g, 0, none⟩) (j2 + 1) cap)).heap[b]? = Wb.heap[b]? from fun b hb1 hb2 =>
               (Below.heap_setCell w9 ⟨cb, 1, none⟩ _ b (by simp only; omega)).trans ((World.grownBy.block hg2.2.1 b (Nat.lt_of_lt_of_le (Nat.lt_of_lt_of_le hb2 (Nat.le_trans hsz9 (Nat.le_trans hzz hz2))) (Nat.le_refl _)) (fun e => hne b hb2 e.symm)).trans ((Below.block k7 b (by omega)).trans (HKP.out b hb1 hb2))))
             clear hpart hne hg hg2 hv hf2 k7
             go_wp2
             go_roundw
             case rel =>
               subst hj9
               have hl : (css2 ++ [cfV T A8 T.ops.length c8]).length = css2.length + 1 := by simp
               exact ⟨css2 ++ [cfV T A8 T.ops.length c8], some ⟨g, 0, none⟩, cap, by rw [hl]; omega, by rw [hl]; go_num, HFN.out, HCL.out.2.1, by rw [hl]; exact HCL.out.1, HCL.out.2.2, by rw [hl, ← HTK.out]; exact HN.out, HZN.out, HKN.out⟩
             case measure => simp [intOf]; omega
         · obtain rfl : j2 = D.fms.length := by omega
           have hD2 := GRow.done (f := CfRd) HG2.out (fun w'' b o cs x hF hc => by
             obtain ⟨A, n, rfl, hr⟩ := hF
             exact ⟨A, n, hc, hr⟩)
           rw [HJ2.out, List.take_of_length_le (by simp)] at hD2
           obtain ⟨FA, c6, hsv2, hrow2⟩ := hD2
           injection hsv2 with e1 e2 e3
           subst e1 e3
           have HCO := Lib.hid (show CodecAt wr cb D from ⟨O, O2, oc, oc2, fun i v hv => (by
             match i, hv with
             | 0, hv => obtain rfl := Option.some.inj hv; exact HQ0.out
             | 1, hv => obtain rfl := Option.some.inj hv; exact HQ1.out), HROW.out _ (fun b h1 h2 => HKP.out b (by omega) h2), hrow2 _ (fun b _ _ => rfl)⟩)
           clear hrow2 hj2 e2
           go_wp2
           go_ret2
           exact HNP.out _ _ ⟨.inr ⟨by trivial, cb, rfl, HCO.out⟩, HF1.out.call (HF4.out.call HF2.out)⟩
 · have h0n : (c2 != 0) = true := bne_iff_ne.2 h0
   have h00 : ¬ c2 = 0 := h0
   clear h0
   go_wp2
   go_ret2
   exact HNP.out _ _ ⟨.inl ⟨h00, rfl⟩, HF1.out.call HF4.out⟩
theorem pow_pos2 (n : Nat) : (0 : Int) < 2 ^ n := Int.pow_pos (by decide)
def fitsUB (n x : Int) : Bool := decide (1 ≤ x ∧ 0 ≤ n ∧ (64 ≤ x ∨ n < 2 ^ x.toNat))
def fitsSB (n x : Int) : Bool := decide (1 ≤ x ∧ (64 ≤ x ∨ (-(2 ^ (x.toNat - 1)) ≤ n ∧ n < 2 ^ (x.toNat - 1))))
theorem div_pow_zero (n : Int) (k : Nat) (h : 0 ≤ n) : (n / 2 ^ k == 0) = decide (n < 2 ^ k) := by
 have hp := pow_pos2 k
 by_cases g : n < 2 ^ k
 · rw [Int.ediv_eq_zero_of_lt h g, decide_eq_true g]; rfl
 · rw [decide_eq_false g, beq_eq_false_iff_ne]
   have := Int.le_ediv_of_mul_le hp (by omega : 1 * 2 ^ k ≤ n)
   omega
theorem div_pow_s (n : Int) (k : Nat) : (n / 2 ^ k == 0 || n / 2 ^ k == -1) = decide (-(2 ^ k) ≤ n ∧ n < 2 ^ k) := by
 have hp := pow_pos2 k
 have h1 := Int.emod_add_mul_ediv n (2 ^ k)
 have h2 := Int.emod_nonneg n (by omega : (2 : Int) ^ k ≠ 0)
 have h3 := Int.emod_lt_of_pos n hp
 by_cases e0 : n / 2 ^ k = 0
 · rw [e0, Int.mul_zero] at h1
   rw [e0, decide_eq_true (by omega)]; rfl
 · by_cases e1 : n / 2 ^ k = -1
   · rw [e1] at h1
     rw [e1, decide_eq_true (by omega)]; rfl
   · have g0 : (n / 2 ^ k == 0) = false := by rw [beq_eq_false_iff_ne]; exact e0
     have g1 : (n / 2 ^ k == -1) = false := by rw [beq_eq_false_iff_ne]; exact e1
     rw [g0, g1, decide_eq_false]
     · rfl
     · rintro ⟨k1, k2⟩
       rcases (by omega : n < 0 ∨ 0 ≤ n) with hn | hn
       · have : n / 2 ^ k < 0 := Int.ediv_neg_of_neg_of_pos hn hp
         have : -1 ≤ n / 2 ^ k := Int.le_ediv_of_mul_le hp (by omega)
         omega
       · exact e0 (Int.ediv_eq_zero_of_lt hn k2)
set_option maxHeartbeats 4000000 in
theorem fitsU_any (n x : Int) (n0 : -9223372036854775808 ≤ n) (n1 : n ≤ 9223372036854775807) (x0 : -9223372036854775808 ≤ x) (x1 : x ≤ 9223372036854775807) (w : World) :
   Calls Tryz.prog 64 #[.int .i64 n, .int .i64 x] w fun e w' => e = .returned (.bool (fitsUB n x)) ∧ Fr w w' := by
 by_cases c1 : 1 ≤ x
 · by_cases c2 : 0 ≤ n
   · by_cases c3 : 64 ≤ x
     · have E : Hid (fitsUB n x = true) := decide_eq_true ⟨c1, c2, Or.inl c3⟩
       go_enter Tryz.func64, Tryz.ntmps64
       go_wp2
       go_ret
       exact ⟨by rw [E.out]; rfl, by repeat (first | with_reducible exact Fr.refl _ | with_reducible apply Fr.drewN | with_reducible apply Fr.drew | with_reducible apply Fr.alloc | (with_reducible refine Fr.set ?_ (by simp; try omega) _) | (with_reducible refine Fr.call ?_ (by assumption)))⟩
     · have E : Hid (fitsUB n x = (n / 2 ^ x.toNat == 0)) := by
         show fitsUB n x = _
         rw [div_pow_zero _ _ c2]; unfold fitsUB; exact decide_eq_decide.2 (by omega)
       have c4 : x < 64 := by omega
       clear c3
       go_enter Tryz.func64, Tryz.ntmps64
       go_wp2
       go_ret
       exact ⟨by rw [E.out]; simp; omega, by repeat (first | with_reducible exact Fr.refl _ | with_reducible apply Fr.drewN | with_reducible apply Fr.drew | with_reducible apply Fr.alloc | (with_reducible refine Fr.set ?_ (by simp; try omega) _) | (with_reducible refine Fr.call ?_ (by assumption)))⟩
   · have E : Hid (fitsUB n x = false) := decide_eq_false (by omega)
     have c4 : n < 0 := by omega
     clear c2
     go_enter Tryz.func64, Tryz.ntmps64
     go_wp2
     go_ret
     exact ⟨by rw [E.out]; rfl, by repeat (first | with_reducible exact Fr.refl _ | with_reducible apply Fr.drewN | with_reducible apply Fr.drew | with_reducible apply Fr.alloc | (with_reducible refine Fr.set ?_ (by simp; try omega) _) | (with_reducible refine Fr.call ?_ (by assumption)))⟩
 · have E : Hid (fitsUB n x = false) := decide_eq_false (by omega)
   have c4 : x < 1 := by omega
   clear c1
   go_enter Tryz.func64, Tryz.ntmps64
   go_wp2
   go_ret
   exact ⟨by rw [E.out]; rfl, by repeat (first | with_reducible exact Fr.refl _ | with_reducible apply Fr.drewN | with_reducible apply Fr.drew | with_reducible apply Fr.alloc | (with_reducible refine Fr.set ?_ (by simp; try omega) _) | (with_reducible refine Fr.call ?_ (by assumption)))⟩
set_option maxHeartbeats 4000000 in
theorem fitsS_any (n x : Int) (n0 : -9223372036854775808 ≤ n) (n1 : n ≤ 9223372036854775807) (x0 : -9223372036854775808 ≤ x) (x1 : x ≤ 9223372036854775807) (w : World) :
   Calls Tryz.prog 63 #[.int .i64 n, .int .i64 x] w fun e w' => e = .returned (.bool (fitsSB n x)) ∧ Fr w w' := by
 by_cases c1 : 1 ≤ x
 · have E : Hid (fitsSB n x = (n / 2 ^ (min (x - 1) 63).toNat == 0 || n / 2 ^ (min (x - 1) 63).toNat == -1)) := by
     show fitsSB n x = _
     rw [div_pow_s]; unfold fitsSB; apply decide_eq_decide.2
     by_cases g : 64 ≤ x
     · have e : (min (x - 1) 63).toNat = 63 := by omega
       rw [e]; exact ⟨fun _ => by omega, fun _ => by omega⟩
     · have e : (min (x - 1) 63).toNat = x.toNat - 1 := by omega
       rw [e]; exact ⟨fun k => by omega, fun k => by omega⟩
   generalize hm : (n / 2 ^ (min (x - 1) 63).toNat) = m at E
   cases e1 : (m == 0) <;> cases e2 : (m == -1)
   all_goals
     have HM := Lib.hid hm; clear hm
     rw [e1, e2] at E
     rw [← HM.out] at e1 e2
     go_enter Tryz.func63, Tryz.ntmps63
     go_wp2
     go_ret
     exact ⟨by rw [E.out]; rfl, by repeat (first | with_reducible exact Fr.refl _ | with_reducible apply Fr.drewN | with_reducible apply Fr.drew | with_reducible apply Fr.alloc | (with_reducible refine Fr.set ?_ (by simp; try omega) _) | (with_reducible refine Fr.call ?_ (by assumption)))⟩
 · have E : Hid (fitsSB n x = false) := decide_eq_false (by omega)
   have c4 : x < 1 := by omega
   clear c1
   go_enter Tryz.func63, Tryz.ntmps63
   go_wp2
   go_ret
   exact ⟨by rw [E.out]; rfl, by repeat (first | with_reducible exact Fr.refl _ | with_reducible apply Fr.drewN | with_reducible apply Fr.drew | with_reducible apply Fr.alloc | (with_reducible refine Fr.set ?_ (by simp; try omega) _) | (with_reducible refine Fr.call ?_ (by assumption)))⟩
def hasI (c : Cl) (v : Int) : Bool := !c.ex.contains v && (if c.kind = 1 then decide (c.plus ≤ v ∧ v < c.plus + 2 ^ c.bits.toNat)
 else decide (v % 2 ^ c.shift.toNat = 0) && (if c.kind = 2 then decide (0 ≤ v / 2 ^ c.shift.toNat ∧ v / 2 ^ c.shift.toNat < 2 ^ c.bits.toNat) else decide (-(2 ^ (c.bits.toNat - 1)) ≤ v / 2 ^ c.shift.toNat ∧ v / 2 ^ c.shift.toNat < 2 ^ (c.bits.toNat - 1))))
def chasB (sg : Bool) (bits shift plus : Int) (ex : List Int) (v : Int) : Bool :=
 (IntKind.i64.wrap (IntKind.i64.wrap (IntKind.i64.wrap (v - plus) / 2 ^ shift.toNat * 2 ^ shift.toNat) + plus) == v) && !ex.contains v && (if sg then fitsSB (IntKind.i64.wrap (v - plus) / 2 ^ shift.toNat) bits else fitsUB (IntKind.i64.wrap (v - plus) / 2 ^ shift.toNat) bits)
theorem cls_right {D : Ds} {c : Cl} (hc : clsB D c = true) : (c.kind = 1 ∧ 1 ≤ c.bits ∧ c.bits ≤ 6 ∧ c.shift = 0 ∧ 0 ≤ c.plus ∧ c.plus ≤ 64) ∨
   (c.kind = 2 ∧ c.plus = 0 ∧ ∃ b s : Nat, c.bits = (b : Int) ∧ c.shift = (s : Int) ∧ 1 ≤ b ∧ b + s ≤ 62) ∨ (c.kind ≠ 1 ∧ c.kind ≠ 2 ∧ c.plus = 0 ∧ ∃ b s : Nat, c.bits = (b : Int) ∧ c.shift = (s : Int) ∧ 1 ≤ b ∧ b + s ≤ 64) := by
 obtain ⟨kind, file, bits, shift, plus, ex⟩ := c
 unfold clsB at hc
 simp only at hc ⊢
 by_cases h1 : kind = 1
 · left
   subst h1
   rw [if_pos rfl] at hc
   unfold regB at hc
   split at hc
   · cases hc
   · rename_i f hf
     simp only [Bool.and_eq_true, decide_eq_true_eq] at hc
     obtain ⟨⟨⟨⟨c1, c2⟩, c3⟩, c4⟩, c5⟩ := hc
     have hfb : f.1 ≤ 64 := by
       unfold fileD at hf
       split at hf
       · split at hf
         · split at hf
           · rename_i hb
             injection hf with hf; subst hf
             unfold fileB at hb; simp at hb; omega
           · cases hf
         · cases hf
       · cases hf
     have hp := pow_pos2 bits.toNat
     exact ⟨rfl, c1, c2, c3, c4, by omega⟩
 · right
   rw [if_neg h1] at hc
   have key : ∀ most : Int, most ≤ 64 → numB ⟨kind, file, bits, shift, plus, ex⟩ most = true → plus = 0 ∧ ∃ b s : Nat, bits = (b : Int) ∧ shift = (s : Int) ∧ 1 ≤ b ∧ ((b + s : Nat) : Int) ≤ most := fun most hm h => by
     unfold numB at h
     simp only [Bool.and_eq_true, decide_eq_true_eq] at h
     exact ⟨by omega, bits.toNat, shift.toNat, by omega, by omega, by omega, by omega⟩
   by_cases h2 : kind = 2
   · left
     rw [if_pos h2] at hc
     obtain ⟨e, b, s, h3, h4, h5, h6⟩ := key 62 (by decide) hc
     exact ⟨h2, e, b, s, h3, h4, h5, by omega⟩
   · right
     rw [if_neg h2] at hc
     split at hc
     · obtain ⟨e, b, s, h3, h4, h5, h6⟩ := key 64 (by decide) hc
       exact ⟨h1, h2, e, b, s, h3, h4, h5, by omega⟩
     · cases hc
theorem wrap_bd (x : Int) : -9223372036854775808 ≤ IntKind.i64.wrap x ∧ IntKind.i64.wrap x < 9223372036854775808 := by
 unfold IntKind.wrap; simp [IntKind.bits, IntKind.signed]; omega
theorem pow_le_i {a b : Nat} (h : a ≤ b) : (2 : Int) ^ a ≤ 2 ^ b := by
 have : (2 : Nat) ^ a ≤ 2 ^ b := Nat.pow_le_pow_right (by decide) h
 exact_mod_cast this
theorem down_up {v : Int} {s : Nat} (hv : I64 v) (hs : s ≤ 63) : IntKind.i64.wrap (v / 2 ^ s * 2 ^ s) = v / 2 ^ s * 2 ^ s ∧ v / 2 ^ s * 2 ^ s = v - v % 2 ^ s := by
 have hp := pow_pos2 s
 have h1 := Int.emod_add_mul_ediv v (2 ^ s)
 have h2 := Int.emod_nonneg v (by omega : (2 : Int) ^ s ≠ 0)
 have h3 := Int.emod_lt_of_pos v hp
 have h4 : v / 2 ^ s * 2 ^ s = v - v % 2 ^ s := by rw [Int.mul_comm] ; omega
 have hlow : -(2 ^ (63 - s)) ≤ v / 2 ^ s := by
   refine Int.le_ediv_of_mul_le hp ?_
   have : (2 : Int) ^ (63 - s) * 2 ^ s = 9223372036854775808 := by rw [← Int.pow_add, show 63 - s + s = 63 by omega]; decide
   rw [Int.neg_mul, this]; exact hv.1
 have hlow2 : -9223372036854775808 ≤ v / 2 ^ s * 2 ^ s := by
   have := Int.mul_le_mul_of_nonneg_right hlow (Int.le_of_lt hp)
   have e : (2 : Int) ^ (63 - s) * 2 ^ s = 9223372036854775808 := by rw [← Int.pow_add, show 63 - s + s = 63 by omega]; decide
   rw [Int.neg_mul, e] at this; exact this
 refine ⟨wrap_in hlow2 ?_, h4⟩
 have := hv.2
 omega
theorem chas_right {D : Ds} {c : Cl} (hc : clsB D c = true) {v : Int} (hv : I64 v) : chasB (sgC c.kind) c.bits c.shift c.plus c.ex v = hasI c v := by
 have hcr := cls_right hc
 obtain ⟨kind, file, bits, shift, plus, ex⟩ := c
 unfold chasB hasI
 simp only at hcr ⊢
 obtain ⟨E, hE⟩ : ∃ E, (!ex.contains v) = E := ⟨_, rfl⟩
 rw [hE]
 rcases hcr with ⟨rfl, h1, h2, rfl, h3, h4⟩ | ⟨rfl, rfl, b, s, rfl, rfl, h1, h2⟩ | ⟨h1, h2, rfl, b, s, rfl, rfl, h3, h4⟩
 · have e1 : sgC 1 = false := rfl
   rw [e1]
   simp only [Int.toNat_zero, Int.pow_zero, Int.ediv_one, Int.mul_one, if_true, Bool.false_eq_true, if_false]
   have hp := pow_pos2 bits.toNat
   have hp2 : (2 : Int) ^ bits.toNat ≤ 64 := by have := pow_le_i (show bits.toNat ≤ 6 by omega); simpa using this
   have hx := wrap_bd (v - plus)
   have e2 : IntKind.i64.wrap (IntKind.i64.wrap (v - plus)) = IntKind.i64.wrap (v - plus) := wrap_in hx.1 hx.2
   have e3 : IntKind.i64.wrap (IntKind.i64.wrap (v - plus) + plus) = v := by
     have := hv.1; have := hv.2
     unfold IntKind.wrap; simp [IntKind.bits, IntKind.signed]; omega
   have e4 : fitsUB (IntKind.i64.wrap (v - plus)) bits = decide (plus ≤ v ∧ v < plus + 2 ^ bits.toNat) := by
     have := hv.1; have := hv.2
     unfold fitsUB
     generalize (2 : Int) ^ bits.toNat = P at *
     apply decide_eq_decide.2
     unfold IntKind.wrap; simp [IntKind.bits, IntKind.signed]; omega
   rw [e2, e3, e4, beq_self_eq_true, Bool.true_and]
 · have e1 : sgC 2 = false := rfl
   obtain ⟨d1, d2⟩ := down_up hv (show s ≤ 63 by omega)
   have e0 : IntKind.i64.wrap (v - 0) = v := by rw [Int.sub_zero]; exact wrap_in hv.1 (by have := hv.2; omega)
   have hn2 : ¬ (2 : Int) = 1 := by decide
   rw [e1, e0]
   simp only [Int.toNat_natCast, if_neg hn2, if_true, Bool.false_eq_true, if_false]
   rw [d1, Int.add_zero, d1, d2]
   have e5 : (v - v % 2 ^ s == v) = decide (v % 2 ^ s = 0) := by
     rw [Bool.eq_iff_iff, beq_iff_eq, decide_eq_true_eq]; omega
   have e6 : fitsUB (v / 2 ^ s) (b : Int) = decide (0 ≤ v / 2 ^ s ∧ v / 2 ^ s < 2 ^ b) := by
     unfold fitsUB
     rw [Int.toNat_natCast]
     apply decide_eq_decide.2
     omega
   rw [e5, e6]
   cases E <;> simp
 · have e1 : sgC kind = true := by unfold sgC; simp [h1, h2]
   obtain ⟨d1, d2⟩ := down_up hv (show s ≤ 63 by omega)
   have e0 : IntKind.i64.wrap (v - 0) = v := by rw [Int.sub_zero]; exact wrap_in hv.1 (by have := hv.2; omega)
   rw [e1, e0]
   simp only [Int.toNat_natCast, if_neg h1, if_neg h2, if_true]
   rw [d1, Int.add_zero, d1, d2]
   have e5 : (v - v % 2 ^ s == v) = decide (v % 2 ^ s = 0) := by
     rw [Bool.eq_iff_iff, beq_iff_eq, decide_eq_true_eq]; omega
   have e6 : fitsSB (v / 2 ^ s) (b : Int) = decide (-(2 ^ (b - 1)) ≤ v / 2 ^ s ∧ v / 2 ^ s < 2 ^ (b - 1)) := by
     unfold fitsSB
     rw [Int.toNat_natCast]
     apply decide_eq_decide.2
     constructor
     · rintro ⟨k1, k2⟩
       rcases k2 with k2 | k2
       · obtain rfl : b = 64 := by omega
         obtain rfl : s = 0 := by omega
         have := hv.1; have := hv.2
         simp; omega
       · exact k2
     · intro k; exact ⟨by omega, .inr k⟩
   rw [e5, e6]
   cases E <;> simp
theorem div_i64 {d : Int} (h : I64 d) (k : Nat) : I64 (d / 2 ^ k) := by
 have hp := pow_pos2 k
 obtain ⟨h1, h2⟩ := h
 rcases Int.lt_or_le d 0 with hd | hd
 · have e1 : d / 2 ^ k < 0 := Int.ediv_neg_of_neg_of_pos hd hp
   have e2 : d ≤ d / 2 ^ k := Int.le_ediv_of_mul_le hp (by
     have : d * 2 ^ k ≤ d * 1 := Int.mul_le_mul_of_nonpos_left (by omega) (by omega)
     omega)
   exact ⟨by omega, by omega⟩
 · have e1 := Int.ediv_le_self (2 ^ k) hd
   have e2 := Int.ediv_nonneg hd (Int.le_of_lt hp)
   exact ⟨by omega, by omega⟩
set_option maxHeartbeats 6400000 in
set_option maxRecDepth 100000 in
theorem chas_any {w : World} (b o : Nat) {A : Option Addr} {ex : List Int} (ec : Nat) (sg : Bool) (bits shift plus v : Int) (hb : I64 bits) (hs : 0 ≤ shift) (hs2 : shift < 64)
   (h0 : w.cell? ⟨b, o, none⟩ = some (.bool sg)) (h1 : w.cell? ⟨b, o + 1, none⟩ = some (.int .i64 bits)) (h2 : w.cell? ⟨b, o + 2, none⟩ = some (.int .i64 shift)) (h3 : w.cell? ⟨b, o + 3, none⟩ = some (.int .i64 plus)) (h4 : w.cell? ⟨b, o + 4, none⟩ = some (.slice A ex.length ec)) (h : RowOf IntC 1 w A ex) (hm : ex.length ≤ maxLen) :
   Calls Tryz.prog 36 #[.pointer (some ⟨b, o, none⟩), .int .i64 v] w fun e w' => e = .returned (.bool (chasB sg bits shift plus ex v)) ∧ Fr w w' := by
 have HE := Lib.hid (fun (w1 : World) (k : Fr w w1) => excepts_any b o ec v (k.get h4) (h.fr fun _ _ _ x => IntC.fr x k) hm)
 have HG := Lib.hid (fun (w1 : World) (k : Fr w w1) => (⟨k.get h0, k.get h1⟩ : w1.cell? ⟨b, o, none⟩ = some (.bool sg) ∧ w1.cell? ⟨b, o + 1, none⟩ = some (.int .i64 bits)))
 unfold chasB
 obtain ⟨d, hd⟩ : ∃ d, IntKind.i64.wrap (v - plus) = d := ⟨_, rfl⟩
 have hdI : I64 d := by have := wrap_bd (v - plus); rw [hd] at this; exact ⟨by omega, by omega⟩
 have hnI := div_i64 hdI shift.toNat
 rw [hd]
 obtain ⟨n, hn⟩ : ∃ n, d / 2 ^ shift.toNat = n := ⟨_, rfl⟩
 rw [hn] at hnI ⊢
 obtain ⟨m, hm2⟩ : ∃ m, IntKind.i64.wrap (n * 2 ^ shift.toNat) = m := ⟨_, rfl⟩
 rw [hm2]
 obtain ⟨r, hr⟩ : ∃ r, IntKind.i64.wrap (m + plus) = r := ⟨_, rfl⟩
 rw [hr]
 have HU := Lib.hid (fun w1 => fitsU_any n bits hnI.1 hnI.2 hb.1 hb.2 w1)
 have HS := Lib.hid (fun w1 => fitsS_any n bits hnI.1 hnI.2 hb.1 hb.2 w1)
 generalize fitsUB n bits = fu at *
 generalize fitsSB n bits = fs at *
 generalize ex.contains v = y at *
 have zb := lt_of_cell h2
 clear h h4 hm hdI hnI hb
 by_cases hrv : r = v
 · subst hrv
   have hb2 : (r == r) = true := by simp
   rw [hb2]
   simp only [Bool.true_and]
   obtain ⟨R, hR⟩ : ∃ R, (!y && (if sg = true then fs else fu)) = R := ⟨_, rfl⟩
   rw [hR]
   have HR1 := Lib.hid (show y = true → R = false from fun h => by rw [← hR, h]; rfl)
   have HR2 := Lib.hid (show y = false → sg = true → R = fs from fun h h2 => by rw [← hR, h, h2]; rfl)
   have HR3 := Lib.hid (show y = false → sg = false → R = fu from fun h h2 => by rw [← hR, h, h2]; rfl)
   clear hR
   go_enter Tryz.func36, Tryz.ntmps36
   go_wp2_with fail
   go_quiet (fail)
   rename_i nq
   have HFW := Lib.hid (show Fr w (w.drewN nq) from Fr.drewN (Fr.refl _) _)
   have k2 := HFW.out.get h2
   have k3 := HFW.out.get h3
   have zk := lt_of_cell k2
   go_wp2_with fail
   generalize w.drewN nq = W at *
   have HS2 := Lib.hid (fun wx (k : Fr W wx) => (⟨k.get k2, k.get k3⟩ : wx.cell? ⟨b, o + 2, none⟩ = some (.int .i64 shift) ∧ wx.cell? ⟨b, o + 3, none⟩ = some (.int .i64 plus)))
   go_region_held3 (fun wx => wx.cell? ⟨b, o + 2, none⟩ = some (.int .i64 shift) ∧ wx.cell? ⟨b, o + 3, none⟩ = some (.int .i64 plus)) (first | exact HS2.out _ (Fr.refl _) | exact HS2.out _ (Fr.drew (Fr.refl _))) (first | (go_at_call 62; refine (HE.out _ (by first | exact HFW.out | exact Fr.drew HFW.out)).mono ?_; rintro e w8 ⟨rfl, rfl⟩))
   have HF2 := Lib.hid (show Fr w W.drew from Fr.drew HFW.out)
   have k0 := (HG.out _ HF2.out).1
   have k1 := (HG.out _ HF2.out).2
   have zk := lt_of_cell k0
   cases y with
   | true =>
     go_wp2
     go_ret
     exact ⟨by rw [HR1.out (by trivial)]; rfl, HF2.out⟩
   | false =>
     cases sg with
     | true =>
       go_wp2_with fail
       refine (HS.out _).mono ?_
       rintro e w2 ⟨rfl, hf2⟩
       go_wp2
       go_ret
       exact ⟨by rw [HR2.out (by trivial) (by trivial)]; rfl, HF2.out.call hf2⟩
     | false =>
       go_wp2_with fail
       refine (HU.out _).mono ?_
       rintro e w2 ⟨rfl, hf2⟩
       go_wp2
       go_ret
       exact ⟨by rw [HR3.out (by trivial) (by trivial)]; rfl, HF2.out.call hf2⟩
 · have hb1 : (r != v) = true := bne_iff_ne.2 hrv
   have hb2 : (r == v) = false := beq_eq_false_iff_ne.2 hrv
   rw [hb2]
   simp only [Bool.false_and]
   clear hrv
   go_enter Tryz.func36, Tryz.ntmps36
   go_wp2_with fail
   go_quiet (fail)
   go_wp2_with fail
   go_quiet (fail)
   go_wp2
   go_ret
   first | exact ⟨rfl, Fr.drewN (Fr.refl _) _⟩ | exact ⟨rfl, Fr.drewN (Fr.drewN (Fr.refl _) _) _⟩
theorem rowInt {w : World} {A : Option Addr} {l : List Int} (h : RowOf IntAt 1 w A l) : RowOf IntC 1 w A l := fun hl => by
 obtain ⟨b, o, e, hx⟩ := h hl; exact ⟨b, o, e, fun i hi => (hx i hi).2⟩
def hasAt (D : Ds) (k v : Int) : Bool := if 0 ≤ k then (match D.cls[k.toNat]? with | some c => hasI c v | none => false) else false
theorem hasAt_in {D : Ds} {n : Nat} (hn : n < D.cls.length) (v : Int) : hasAt D (n : Int) v = hasI D.cls[n] v := by
 unfold hasAt
 rw [if_pos (by omega), Int.toNat_natCast, List.getElem?_eq_getElem hn]
theorem hasAt_out {D : Ds} {k : Int} (h : ¬ (0 ≤ k ∧ k < (D.cls.length : Int))) (v : Int) : hasAt D k v = false := by
 unfold hasAt
 split
 · rw [List.getElem?_eq_none (by omega)]
 · rfl
set_option maxHeartbeats 6400000 in
set_option maxRecDepth 100000 in
theorem cHas_any {w : World} {p : Nat} {D : Ds} (hC : CodecAt w p D) (hR : ∀ c ∈ D.cls, clsB D c = true) (hX : ∀ c ∈ D.cls, c.ex.length ≤ 1048576) (k v : Int) (hv : I64 v) :
   Calls Tryz.prog 13 #[.pointer (some ⟨p, 0, none⟩), .int .i64 k, .int .i64 v] w fun e w' => e = .returned (.bool (hasAt D k v)) ∧ Fr w w' := by
 obtain ⟨CA, FA, cc, fc, hb, hc, hf⟩ := hC
 have q0 := hb 0 _ rfl
 have zq := lt_of_cell q0
 clear hf hb
 by_cases hk : 0 ≤ k ∧ k < (D.cls.length : Int)
 · obtain ⟨n, rfl⟩ : ∃ n : Nat, k = (n : Int) := ⟨k.toNat, by omega⟩
   have hn : n < D.cls.length := by omega
   rw [hasAt_in hn]
   have HPL := Lib.hid (fun (A : Option Addr) (w : World) => (show Calls Tryz.prog 35 #[.int .i64 (n : Int), .slice A D.cls.length cc] w fun e w' => e = .returned (.bool true) ∧ w' = w from by
     have h := cclassPlace_any (n : Int) A D.cls.length cc w
     have e : plB (n : Int) D.cls.length = true := by unfold plB; simp; omega
     rwa [e] at h))
   have hcl := hR _ (List.getElem_mem hn)
   have hxl := hX _ (List.getElem_mem hn)
   obtain ⟨bq, oq, rfl, hx⟩ := hc.at hn
   rw [Nat.mul_comm 5 n] at hx
   have hni : (n : Int) < (D.cls.length : Int) := by omega
   have hn0 : (0 : Int) ≤ (n : Int) := by omega
   generalize D.cls[n] = c at *
   obtain ⟨A, m, hcell, hrow⟩ := hx
   have hbits : I64 c.bits := by
     rcases cls_right hcl with h | ⟨_, _, b, s, h, _⟩ | ⟨_, _, _, b, s, h, _⟩ <;> (constructor <;> omega)
   have hsh : 0 ≤ c.shift ∧ c.shift < 64 := by
     rcases cls_right hcl with h | ⟨_, _, b, s, h1, h2, h3, h4⟩ | ⟨_, _, _, b, s, h1, h2, h3, h4⟩ <;> omega
   have HH := Lib.hid (show Calls Tryz.prog 36 #[.pointer (some ⟨bq, oq + n * 5, none⟩), .int .i64 v] w fun e w' => e = .returned (.bool (hasI c v)) ∧ Fr w w' from by
     rw [← chas_right hcl hv]
     exact chas_any bq (oq + n * 5) m (sgC c.kind) c.bits c.shift c.plus v hbits hsh.1 hsh.2 (hcell 0 _ rfl) (hcell 1 _ rfl) (hcell 2 _ rfl) (hcell 3 _ rfl) (hcell 4 _ rfl) hrow (Nat.le_trans hxl (by decide)))
   clear hcell hrow hcl hc hbits hsh
   go_enter Tryz.func13, Tryz.ntmps13
   go_wp2_with fail
   refine (HPL.out _ _).mono ?_
   rintro e w1 ⟨rfl, rfl⟩
   go_wp2_with fail
   refine HH.out.mono ?_
   rintro e w2 ⟨rfl, hf2⟩
   go_wp2
   go_ret
   exact ⟨rfl, hf2⟩
 · rw [hasAt_out hk]
   have HPL := Lib.hid (fun (w : World) => (show Calls Tryz.prog 35 #[.int .i64 k, .slice CA D.cls.length cc] w fun e w' => e = .returned (.bool false) ∧ w' = w from by
     have h := cclassPlace_any k CA D.cls.length cc w
     have e : plB k D.cls.length = false := by unfold plB; simp; omega
     rwa [e] at h))
   clear hk hc
   go_enter Tryz.func13, Tryz.ntmps13
   go_wp2_with fail
   refine (HPL.out _).mono ?_
   rintro e w1 ⟨rfl, rfl⟩
   go_wp2
   go_ret
   exact ⟨rfl, Fr.refl _⟩
theorem wrap_64 (x : Int) : IntKind.i64.wrap x = wrap64 x := by rw [IntKind.wrap_i64]; unfold wrap64; omega
theorem sgnI_N {b n : Nat} (hb : 1 ≤ b) (hn : n < 2 ^ b) : sgnI (b : Int) (n : Int) = sgnN b n := by
 unfold sgnI sgnN
 rw [Int.toNat_natCast]
 have c1 : ((2 ^ (b - 1) : Nat) : Int) = 2 ^ (b - 1) := by simp
 by_cases h : n < 2 ^ (b - 1)
 · rw [if_pos h, if_pos (by omega)]
 · rw [if_neg h, if_neg (by omega)]
def cvalI (sg : Bool) (bits shift plus : Int) (n : Nat) : Int := IntKind.i64.wrap (IntKind.i64.wrap ((if sg then sgnN bits.toNat n else IntKind.i64.wrap (n : Int)) * 2 ^ shift.toNat) + plus)
theorem cval_right {D : Ds} {c : Cl} (hc : clsB D c = true) {n : Nat} (hn : n < 2 ^ c.bits.toNat) : cvalI (sgC c.kind) c.bits c.shift c.plus n = valI c n := by
 have hcr := cls_right hc
 obtain ⟨kind, file, bits, shift, plus, ex⟩ := c
 unfold cvalI valI
 simp only at hcr hn ⊢
 rcases hcr with ⟨rfl, h1, h2, rfl, h3, h4⟩ | ⟨rfl, rfl, b, s, rfl, rfl, h1, h2⟩ | ⟨h1, h2, rfl, b, s, rfl, rfl, h3, h4⟩
 · have e1 : sgC 1 = false := rfl
   have h6 : 2 ^ bits.toNat ≤ 2 ^ 6 := Nat.pow_le_pow_right (by decide) (by omega)
   have hw : IntKind.i64.wrap (n : Int) = (n : Int) := wrap_in (by omega) (by omega)
   rw [e1, if_neg (by decide), if_pos rfl, hw]
   simp only [Int.toNat_zero, Int.pow_zero, Int.mul_one]
   rw [hw, Int.add_comm]
   exact wrap_in (by omega) (by omega)
 · have e1 : sgC 2 = false := rfl
   simp only [Int.toNat_natCast] at hn
   have hb : n * 2 ^ s < 2 ^ b * 2 ^ s := Nat.mul_lt_mul_of_pos_right hn (Nat.two_pow_pos _)
   have hb2 : 2 ^ b * 2 ^ s ≤ 2 ^ 62 := by rw [← Nat.pow_add]; exact Nat.pow_le_pow_right (by decide) h2
   have hb3 : 2 ^ b ≤ 2 ^ 62 := Nat.pow_le_pow_right (by decide) (by omega)
   have hc : (n : Int) * 2 ^ s = ((n * 2 ^ s : Nat) : Int) := by simp
   have hwn := conv_n (n := n) (by omega)
   have hwm : IntKind.i64.wrap ((n : Int) * 2 ^ s) = (n : Int) * 2 ^ s := by rw [hc]; exact conv_n (by omega)
   rw [e1, if_neg (by decide), if_neg (by decide), if_pos rfl, hwn, Int.toNat_natCast, hwm, Int.add_zero, hwm]
 · have e1 : sgC kind = true := by unfold sgC; simp [h1, h2]
   simp only [Int.toNat_natCast] at hn
   have hm := sgn_mul h3 hn h4
   have hwm := wrap_in hm.1 hm.2
   rw [e1, if_pos rfl, if_neg h1, if_neg h2, Int.toNat_natCast, Int.toNat_natCast, hwm, Int.add_zero, hwm]
set_option maxHeartbeats 6400000 in
set_option maxRecDepth 100000 in
theorem cvalue_sgn {w : World} (b o : Nat) (bits s : Nat) (plus : Int) (n : Nat) (hb1 : 1 ≤ bits) (hb2 : bits ≤ 64) (hs : s < 64) (hn : n < 2 ^ bits)
   (h0 : w.cell? ⟨b, o, none⟩ = some (.bool true)) (h1 : w.cell? ⟨b, o + 1, none⟩ = some (.int .i64 (bits : Int))) (h2 : w.cell? ⟨b, o + 2, none⟩ = some (.int .i64 (s : Int))) (h3 : w.cell? ⟨b, o + 3, none⟩ = some (.int .i64 plus)) :
   Calls Tryz.prog 65 #[.pointer (some ⟨b, o, none⟩), .int .u64 (n : Int)] w fun e w' => e = .returned (.int .i64 (cvalI true (bits : Int) (s : Int) plus n)) ∧ Fr w w' := by
 have hn64 : n < 2 ^ 64 := Nat.lt_of_lt_of_le hn (Nat.pow_le_pow_right (by decide) hb2)
 have hn2 : (n : Int) < 2 ^ bits := by
   have : ((2 ^ bits : Nat) : Int) = 2 ^ bits := by simp
   omega
 have hhi : hi (n : Int) = 0 := by unfold hi; omega
 have hlo : lo (n : Int) = (n : Int) := by unfold lo; omega
 have hcut : cutI bits (n : Int) = (n : Int) := cutI_small _ _ (by omega) hn2
 have hN : Norm (bits : Int) (n : Int) := ⟨by omega, by omega, by omega, by rw [Int.toNat_natCast]; exact hn2⟩
 have hsg := sgnI_N hb1 hn
 have hbd := sgn_bd hb1 hn
 have hp63 := pow_le_i (show bits - 1 ≤ 63 by omega)
 have e63 : (2 : Int) ^ 63 = 9223372036854775808 := by decide
 have HMK := Lib.hid (fun w => (show Calls Tryz.prog 104 #[.int .i64 (bits : Int), .int .u64 0, .int .u64 (n : Int)] w fun e w' => e = .returned (bv (bits : Int) (n : Int)) ∧ Fr w w' from by
   have h := make_ok (bits : Int) (n : Int) (by omega) (by omega) w
   rwa [hhi, hlo, Int.toNat_natCast, hcut] at h))
 have HIN := Lib.hid (fun w => (show Calls Tryz.prog 103 #[bv (bits : Int) (n : Int)] w fun e w' => e = .returned (.tuple #[.int .i64 (sgnN bits n), .bool true]) ∧ Fr w w' from by
   have h := int_ok (bits : Int) (n : Int) hN (by rw [hsg]; omega) (by rw [hsg]; omega) w
   rwa [hsg] at h))
 unfold cvalI
 rw [if_pos rfl, Int.toNat_natCast, Int.toNat_natCast]
 generalize sgnN bits n = z at *
 have zb := lt_of_cell h0
 have hsi : (s : Int) < 64 := by omega
 clear hcut hN hsg hbd hn hn2 hhi hlo
 go_enter Tryz.func65, Tryz.ntmps65
 go_wp2_with fail
 refine (HMK.out _).mono ?_
 rintro e w1 ⟨rfl, hf1⟩
 go_wp2_with fail
 refine (HIN.out _).mono ?_
 rintro e w2 ⟨rfl, hf2⟩
 have hf := hf1.call hf2
 have HF := Lib.hid hf
 have h2 := hf.get h2
 have h3 := hf.get h3
 have zb := lt_of_cell h2
 clear hf1 hf2 hf
 go_wp2_with fail
 go_quiet (fail)
 go_wp2
 go_ret
 exact ⟨by simp only [wrap_64]; rfl, Fr.drewN HF.out _⟩
set_option maxHeartbeats 6400000 in
set_option maxRecDepth 100000 in
theorem cvalue_uns {w : World} (b o : Nat) (bits plus : Int) (s : Nat) (n : Nat) (hs : s < 64)
   (h0 : w.cell? ⟨b, o, none⟩ = some (.bool false)) (h2 : w.cell? ⟨b, o + 2, none⟩ = some (.int .i64 (s : Int))) (h3 : w.cell? ⟨b, o + 3, none⟩ = some (.int .i64 plus)) :
   Calls Tryz.prog 65 #[.pointer (some ⟨b, o, none⟩), .int .u64 (n : Int)] w fun e w' => e = .returned (.int .i64 (cvalI false bits (s : Int) plus n)) ∧ Fr w w' := by
 unfold cvalI
 rw [if_neg (by decide), Int.toNat_natCast]
 have zb := lt_of_cell h0
 have hsi : (s : Int) < 64 := by omega
 go_enter Tryz.func65, Tryz.ntmps65
 go_wp2_with fail
 go_quiet (fail)
 go_wp2
 go_ret
 exact ⟨by simp only [wrap_64]; rfl, Fr.drewN (Fr.refl _) _⟩
theorem cvalue_any {w : World} {D : Ds} {c : Cl} (hc : clsB D c = true) {b o : Nat} (h : ClcAt w b o c) {n : Nat} (hn : n < 2 ^ c.bits.toNat) :
   Calls Tryz.prog 65 #[.pointer (some ⟨b, o, none⟩), .int .u64 (n : Int)] w fun e w' => e = .returned (.int .i64 (valI c n)) ∧ Fr w w' := by
 have hv := cval_right hc hn
 obtain ⟨A, m, hcell, hrow⟩ := h
 have h0 := hcell 0 _ rfl
 have h1 := hcell 1 _ rfl
 have h2 := hcell 2 _ rfl
 have h3 := hcell 3 _ rfl
 rw [← hv]
 rcases cls_right hc with ⟨k1, k2, k3, k4, k5, k6⟩ | ⟨k1, k2, b', s, k3, k4, k5, k6⟩ | ⟨k1, k2, k3, b', s, k4, k5, k6, k7⟩
 · have e1 : sgC c.kind = false := by rw [k1]; rfl
   rw [e1] at h0 ⊢
   rw [k4] at h2 ⊢
   exact cvalue_uns b o c.bits c.plus 0 n (by decide) h0 h2 h3
 · have e1 : sgC c.kind = false := by rw [k1]; rfl
   rw [e1] at h0 ⊢
   rw [k4] at h2 ⊢
   exact cvalue_uns b o c.bits c.plus s n (by omega) h0 h2 h3
 · have e1 : sgC c.kind = true := by unfold sgC; simp [k1, k2]
   rw [e1] at h0 ⊢
   rw [k5] at h2 ⊢
   rw [k4] at h1 hn ⊢
   rw [Int.toNat_natCast] at hn
   exact cvalue_sgn b o b' s c.plus n k6 (by omega) (by omega) hn h0 h1 h2 h3
end Go.Proofs.YtdipnhghdajplaaGreatDoor
