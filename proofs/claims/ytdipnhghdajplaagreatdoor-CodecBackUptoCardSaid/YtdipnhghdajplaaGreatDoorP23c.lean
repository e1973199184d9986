/- All that is told of symbols in operands: is it right? -/
import Derived.Test.YtdipnhghdajplaaGreatDoorP21f
import Derived.Test.YtdipnhghdajplaaGreatDoorP23b
namespace Go.Proofs.YtdipnhghdajplaaGreatDoor
open Go.RowKit
set_option linter.unusedSimpArgs false
set_option linter.unusedVariables false
def usB (D : Ds) (u : Us) : Bool := useB D u.cls u.rel
def rxB (D : Ds) (x : Rx) : Bool := relaxB D x.rel x.form x.to
def mcB (D : Ds) (m : Mc) : Bool := decide (m.rel = -1) || atB D.rels m.rel (fun a => !decide (a.kind = 1))
def linksB (D : Ds) : Bool := D.rels.all (relB D) && D.uses.all (usB D) && D.rxs.all (rxB D) && D.mcs.all (mcB D)
set_option maxHeartbeats 25600000 in
set_option maxRecDepth 100000 in
theorem linksRight_any {w : World} {D : Ds} {v : Array Value} (hD : DescAt w D v) (hS : D.Small) :
   Calls Tryz.prog 24 #[.agg v] w fun e w' => e = .returned (.bool (linksB D)) ∧ Fr w w' := by
 have HD := Lib.hid hD
 obtain ⟨s0, Fa, Ba, Ga, Ca, Ma, Ra, Ua, Xa, Ka, Na, Pa, fc, bc, gc, cc, mc, rc, uc, xc, kc, nl, nc, pc, rfl, h1, h2, h3, h4, h5, h6, h7, h8, h9⟩ := hD
 have HRL := Lib.hid h5
 have HUS := Lib.hid h6
 have HRX := Lib.hid h7
 have HMC := Lib.hid h8
 have HR := Lib.hid (show linksB D = (D.rels.all (relB D) && D.uses.all (usB D) && D.rxs.all (rxB D) && D.mcs.all (mcB D)) from rfl)
 obtain ⟨_, _, _, _, _, m5, m6, m7, m8, _⟩ := hS
 have m5 : D.rels.length ≤ 9223372036854775807 := Nat.le_trans m5 (by decide)
 have m6 : D.uses.length ≤ 9223372036854775807 := Nat.le_trans m6 (by decide)
 have m7 : D.rxs.length ≤ 9223372036854775807 := Nat.le_trans m7 (by decide)
 have m8 : D.mcs.length ≤ 9223372036854775807 := Nat.le_trans m8 (by decide)
 clear h1 h2 h3 h4 h5 h6 h7 h8 h9
 go_enter Tryz.func24, Tryz.ntmps24
 go_wp2
 go_loopw [14] (fun i wr => RelA w [.string s0, .int .i64 D.order, .slice Fa D.files.length fc, .slice Ba D.als.length bc, .slice Ga D.nflags gc, .slice Ca D.cls.length cc, .slice Ma D.fms.length mc, .slice Ra D.rels.length rc, .slice Ua D.uses.length uc, .slice Xa D.rxs.length xc, .slice Ka D.mcs.length kc, .slice Na nl nc, .slice Pa D.regs.length pc] D.rels (relB D) i wr) (fun i _ => D.rels.length - (intOf i).toNat)
 case atStart => exact ⟨0, by omega, rfl, Fr.alloc (Fr.refl w) _, BlkAt.alloc, by simp⟩
 case round =>
   obtain ⟨j, hj, rfl, hf, hB, hal⟩ := hrel
   have HFr := Lib.hid hf
   have HBr := Lib.hid hB
   have a0 := hB 0 _ rfl; have a1 := hB 1 _ rfl; have a2 := hB 2 _ rfl; have a3 := hB 3 _ rfl; have a4 := hB 4 _ rfl; have a5 := hB 5 _ rfl; have a6 := hB 6 _ rfl; have a7 := hB 7 _ rfl; have a8 := hB 8 _ rfl; have a9 := hB 9 _ rfl; have a10 := hB 10 _ rfl; have a11 := hB 11 _ rfl; have a12 := hB 12 _ rfl
   by_cases hlt : j < D.rels.length
   · as_aux_lemma =>
       have hji : (j : Int) < (D.rels.length : Int) := by omega
       have HX := Lib.hid (fun h : (relB D) D.rels[j] = false => all_no hlt h)
       have HY := Lib.hid (fun h : (relB D) D.rels[j] = true => all_next hlt hal h)
       obtain ⟨bk, ok, rfl, hx⟩ := (HRL.out.fr fun _ _ _ x => x.fr hf).at hlt
       rw [Nat.mul_comm 17 j] at hx
       generalize D.rels[j] = x at *
       obtain ⟨num, kind, bytes, cls, cls2, ⟨op, wd, ta, tb, ks⟩, sign, width, align, round, hi, lo⟩ := x
       obtain ⟨n0, c0, w1, c1, w2, c2, w3, c3, w4, c4, w5, c5, c6, w7, c7, w8, c8, w9, c9, wa, ca, wb, cb, wc, cc0⟩ := hx
       have c6 : TmT wr bk (ok + j * 17 + 6) (.node op wd ta tb ks) := c6
       unfold TmT at c6
       obtain ⟨ka, kcc, _, f0, f1, f2, f3, f4, hks⟩ := c6
       have HKS := Lib.hid hks
       have f0 : wr.cell? ⟨bk, ok + j * 17 + 6, none⟩ = some (.int .i64 op) := f0
       have f1 : wr.cell? ⟨bk, ok + j * 17 + 7, none⟩ = some (.int .i64 wd) := f1
       have f2 : wr.cell? ⟨bk, ok + j * 17 + 8, none⟩ = some (.int .i64 ta) := f2
       have f3 : wr.cell? ⟨bk, ok + j * 17 + 9, none⟩ = some (.int .i64 tb) := f3
       have f4 : wr.cell? ⟨bk, ok + j * 17 + 10, none⟩ = some (.slice ka ks.length kcc) := f4
       simp only at c0 c1 c2 c3 c4 c5 c7 c8 c9 ca cb cc0
       have zb := lt_of_cell c0
       have zw := lt_of_cell a0
       have HC := Lib.hid (fun w1 (k : Fr wr w1) => relRight_any (HD.out.fr (HFr.out.call k)) n0 num kind bytes cls cls2 op wd ta tb sign width align round hi lo ks ka kcc (TmL.fr k HKS.out))
       generalize relB D ⟨num, kind, bytes, cls, cls2, .node op wd ta tb ks, sign, width, align, round, hi, lo⟩ = q at *
       have HB1 := Lib.hid (show BlkAt (wr.alloc (.cells #[.string n0, .int .i64 num, .int .i64 kind, .int .i64 bytes, .int .i64 cls, .int .i64 cls2, .int .i64 op, .int .i64 wd, .int .i64 ta, .int .i64 tb, .slice ka ks.length kcc, .int .i64 sign, .int .i64 width, .int .i64 align, .int .i64 round, .int .i64 hi, .int .i64 lo] 126)) (w.heap.size) _ from BlkAt.fr hB (Fr.alloc (Fr.refl wr) _))
       have HC1 := Lib.hid (show BlkAt (wr.alloc (.cells #[.string n0, .int .i64 num, .int .i64 kind, .int .i64 bytes, .int .i64 cls, .int .i64 cls2, .int .i64 op, .int .i64 wd, .int .i64 ta, .int .i64 tb, .slice ka ks.length kcc, .int .i64 sign, .int .i64 width, .int .i64 align, .int .i64 round, .int .i64 hi, .int .i64 lo] 126)) (wr.heap.size) _ from BlkAt.alloc)
       have HF1 := Lib.hid (show Fr wr (wr.alloc (.cells #[.string n0, .int .i64 num, .int .i64 kind, .int .i64 bytes, .int .i64 cls, .int .i64 cls2, .int .i64 op, .int .i64 wd, .int .i64 ta, .int .i64 tb, .slice ka ks.length kcc, .int .i64 sign, .int .i64 width, .int .i64 align, .int .i64 round, .int .i64 hi, .int .i64 lo] 126)) from Fr.alloc (Fr.refl wr) _)
       clear hks w1 w2 w3 w4 w5 w7 w8 w9 wa wb wc
       clear hf hB hal hj
       generalize ho : ok + j * 17 = o at *
       go_wp2_with ((with_reducible (show wpList _ _ _ (⟨some 18, _, _, _, _, _⟩ :: _) _ _)); refine Hid.out ?_)
       clear a0 a1 a2 a3 a4 a5 a6 a7 a8 a9 a10 a11 a12 c0 c1 c2 c3 c4 c5 c6 c7 c8 c9 ca cb cc0 f0 f1 f2 f3 f4 zw
       as_aux_lemma =>
         refine Lib.hid ?_
         generalize World.alloc wr _ = W at *
         have a0 := HB1.out 0 _ rfl; have a1 := HB1.out 1 _ rfl; have a2 := HB1.out 2 _ rfl; have a3 := HB1.out 3 _ rfl; have a4 := HB1.out 4 _ rfl; have a5 := HB1.out 5 _ rfl; have a6 := HB1.out 6 _ rfl; have a7 := HB1.out 7 _ rfl; have a8 := HB1.out 8 _ rfl; have a9 := HB1.out 9 _ rfl; have a10 := HB1.out 10 _ rfl; have a11 := HB1.out 11 _ rfl; have a12 := HB1.out 12 _ rfl
         have b0 := HC1.out 0 _ rfl; have b1 := HC1.out 1 _ rfl; have b2 := HC1.out 2 _ rfl; have b3 := HC1.out 3 _ rfl; have b4 := HC1.out 4 _ rfl; have b5 := HC1.out 5 _ rfl; have b6 := HC1.out 6 _ rfl; have b7 := HC1.out 7 _ rfl; have b8 := HC1.out 8 _ rfl; have b9 := HC1.out 9 _ rfl; have b10 := HC1.out 10 _ rfl; have b11 := HC1.out 11 _ rfl; have b12 := HC1.out 12 _ rfl; have b13 := HC1.out 13 _ rfl; have b14 := HC1.out 14 _ rfl; have b15 := HC1.out 15 _ rfl; have b16 := HC1.out 16 _ rfl
         have zw := lt_of_cell a0
         go_wp2_with (go_at_call 49; refine (HC.out _ HF1.out).mono ?_; rintro e w4 ⟨rfl, hf4⟩; have HF4 := Lib.hid (HFr.out.call (HF1.out.call hf4)); have HB4 := Lib.hid (HB1.out.fr hf4); clear hf4)
         · go_ret
           rename_i hq
           exact ⟨ret_bool (by rw [HR.out, HX.out (by simpa using hq)]; simp), HF4.out⟩
         · rename_i hq
           go_roundw
           case rel => exact ⟨j + 1, by omega, by go_num, HF4.out, HB4.out, HY.out (by simpa using hq)⟩
           case measure => simp [intOf]; omega
   · as_aux_lemma =>
       obtain rfl : j = D.rels.length := by omega
       have H0 := Lib.hid (all_end hal)
       clear hf hB hal hj
       go_wp2
       go_loopw [26] (fun i wr => RelA w [.string s0, .int .i64 D.order, .slice Fa D.files.length fc, .slice Ba D.als.length bc, .slice Ga D.nflags gc, .slice Ca D.cls.length cc, .slice Ma D.fms.length mc, .slice Ra D.rels.length rc, .slice Ua D.uses.length uc, .slice Xa D.rxs.length xc, .slice Ka D.mcs.length kc, .slice Na nl nc, .slice Pa D.regs.length pc] D.uses (usB D) i wr) (fun i _ => D.uses.length - (intOf i).toNat)
       case atStart => exact ⟨0, by omega, rfl, HFr.out, HBr.out, by simp⟩
       case round =>
         clear HFr HBr a0 a1 a2 a3 a4 a5 a6 a7 a8 a9 a10 a11 a12
         obtain ⟨j, hj, rfl, hf, hB, hal⟩ := hrel
         have HFr := Lib.hid hf
         have HBr := Lib.hid hB
         have a0 := hB 0 _ rfl; have a1 := hB 1 _ rfl; have a2 := hB 2 _ rfl; have a3 := hB 3 _ rfl; have a4 := hB 4 _ rfl; have a5 := hB 5 _ rfl; have a6 := hB 6 _ rfl; have a7 := hB 7 _ rfl; have a8 := hB 8 _ rfl; have a9 := hB 9 _ rfl; have a10 := hB 10 _ rfl; have a11 := hB 11 _ rfl; have a12 := hB 12 _ rfl
         by_cases hlt : j < D.uses.length
         · as_aux_lemma =>
             have hji : (j : Int) < (D.uses.length : Int) := by omega
             have HX := Lib.hid (fun h : (usB D) D.uses[j] = false => all_no hlt h)
             have HY := Lib.hid (fun h : (usB D) D.uses[j] = true => all_next hlt hal h)
             obtain ⟨bk, ok, rfl, hx⟩ := (HUS.out.fr fun _ _ _ x => x.fr hf).at hlt
             rw [Nat.mul_comm 4 j] at hx
             generalize D.uses[j] = x at *
             obtain ⟨cls, rel⟩ := x
             obtain ⟨n0, n3, c0, w1, c1, w2, c2, c3⟩ := hx
             simp only at c0 c1 c2 c3
             have zb := lt_of_cell c0
             have zw := lt_of_cell a0
             have HC := Lib.hid (fun w1 (k : Fr wr w1) => useRight_any (HD.out.fr (HFr.out.call k)) n0 cls rel n3)
             rw [show usB D ⟨cls, rel⟩ = useB D cls rel from rfl] at HX HY
             generalize useB D cls rel = q at *
             clear w1 w2
             clear hf hB hal hj
             go_wp2_with (go_at_call 50; refine (HC.out _ (Fr.alloc (Fr.refl wr) _)).mono ?_; rintro e w4 ⟨rfl, hf4⟩; have HF4 := Lib.hid ((Fr.alloc HFr.out _).call hf4); have HB4 := Lib.hid (HBr.out.fr ((Fr.alloc (Fr.refl wr) _).call hf4)); clear hf4)
             · go_ret
               rename_i hq
               exact ⟨ret_bool (by rw [HR.out, H0.out, HX.out (by simpa using hq)]; simp), HF4.out⟩
             · rename_i hq
               go_roundw
               case rel => exact ⟨j + 1, by omega, by go_num, HF4.out, HB4.out, HY.out (by simpa using hq)⟩
               case measure => simp [intOf]; omega
         · as_aux_lemma =>
             obtain rfl : j = D.uses.length := by omega
             have H1 := Lib.hid (all_end hal)
             clear hf hB hal hj
             go_wp2
             go_loopw [38] (fun i wr => RelA w [.string s0, .int .i64 D.order, .slice Fa D.files.length fc, .slice Ba D.als.length bc, .slice Ga D.nflags gc, .slice Ca D.cls.length cc, .slice Ma D.fms.length mc, .slice Ra D.rels.length rc, .slice Ua D.uses.length uc, .slice Xa D.rxs.length xc, .slice Ka D.mcs.length kc, .slice Na nl nc, .slice Pa D.regs.length pc] D.rxs (rxB D) i wr) (fun i _ => D.rxs.length - (intOf i).toNat)
             case atStart => exact ⟨0, by omega, rfl, HFr.out, HBr.out, by simp⟩
             case round =>
               clear HFr HBr a0 a1 a2 a3 a4 a5 a6 a7 a8 a9 a10 a11 a12
               obtain ⟨j, hj, rfl, hf, hB, hal⟩ := hrel
               have HFr := Lib.hid hf
               have HBr := Lib.hid hB
               have a0 := hB 0 _ rfl; have a1 := hB 1 _ rfl; have a2 := hB 2 _ rfl; have a3 := hB 3 _ rfl; have a4 := hB 4 _ rfl; have a5 := hB 5 _ rfl; have a6 := hB 6 _ rfl; have a7 := hB 7 _ rfl; have a8 := hB 8 _ rfl; have a9 := hB 9 _ rfl; have a10 := hB 10 _ rfl; have a11 := hB 11 _ rfl; have a12 := hB 12 _ rfl
               by_cases hlt : j < D.rxs.length
               · as_aux_lemma =>
                   have hji : (j : Int) < (D.rxs.length : Int) := by omega
                   have HX := Lib.hid (fun h : (rxB D) D.rxs[j] = false => all_no hlt h)
                   have HY := Lib.hid (fun h : (rxB D) D.rxs[j] = true => all_next hlt hal h)
                   obtain ⟨bk, ok, rfl, hx⟩ := (HRX.out.fr fun _ _ _ x => x.fr hf).at hlt
                   rw [Nat.mul_comm 3 j] at hx
                   generalize D.rxs[j] = x at *
                   obtain ⟨rel, form, to⟩ := x
                   obtain ⟨w0, c0, w1, c1, w2, c2⟩ := hx
                   simp only at c0 c1 c2
                   have zb := lt_of_cell c0
                   have zw := lt_of_cell a0
                   have HC := Lib.hid (fun w1 (k : Fr wr w1) => relaxRight_any (HD.out.fr (HFr.out.call k)) rel form to)
                   rw [show rxB D ⟨rel, form, to⟩ = relaxB D rel form to from rfl] at HX HY
                   generalize relaxB D rel form to = q at *
                   clear w0 w1 w2
                   clear hf hB hal hj
                   go_wp2_with (go_at_call 51; refine (HC.out _ (Fr.alloc (Fr.refl wr) _)).mono ?_; rintro e w4 ⟨rfl, hf4⟩; have HF4 := Lib.hid ((Fr.alloc HFr.out _).call hf4); have HB4 := Lib.hid (HBr.out.fr ((Fr.alloc (Fr.refl wr) _).call hf4)); clear hf4)
                   · go_ret
                     rename_i hq
                     exact ⟨ret_bool (by rw [HR.out, H0.out, H1.out, HX.out (by simpa using hq)]; simp), HF4.out⟩
                   · rename_i hq
                     go_roundw
                     case rel => exact ⟨j + 1, by omega, by go_num, HF4.out, HB4.out, HY.out (by simpa using hq)⟩
                     case measure => simp [intOf]; omega
               · as_aux_lemma =>
                   obtain rfl : j = D.rxs.length := by omega
                   have H2 := Lib.hid (all_end hal)
                   clear hf hB hal hj
                   go_wp2
                   go_loopw [50] (fun i wr => RelA w [.string s0, .int .i64 D.order, .slice Fa D.files.length fc, .slice Ba D.als.length bc, .slice Ga D.nflags gc, .slice Ca D.cls.length cc, .slice Ma D.fms.length mc, .slice Ra D.rels.length rc, .slice Ua D.uses.length uc, .slice Xa D.rxs.length xc, .slice Ka D.mcs.length kc, .slice Na nl nc, .slice Pa D.regs.length pc] D.mcs (mcB D) i wr) (fun i _ => D.mcs.length - (intOf i).toNat)
                   case atStart => exact ⟨0, by omega, rfl, HFr.out, HBr.out, by simp⟩
                   case round =>
                     clear HFr HBr a0 a1 a2 a3 a4 a5 a6 a7 a8 a9 a10 a11 a12
                     obtain ⟨j, hj, rfl, hf, hB, hal⟩ := hrel
                     have HFr := Lib.hid hf
                     have HBr := Lib.hid hB
                     have a0 := hB 0 _ rfl; have a1 := hB 1 _ rfl; have a2 := hB 2 _ rfl; have a3 := hB 3 _ rfl; have a4 := hB 4 _ rfl; have a5 := hB 5 _ rfl; have a6 := hB 6 _ rfl; have a7 := hB 7 _ rfl; have a8 := hB 8 _ rfl; have a9 := hB 9 _ rfl; have a10 := hB 10 _ rfl; have a11 := hB 11 _ rfl; have a12 := hB 12 _ rfl
                     by_cases hlt : j < D.mcs.length
                     · as_aux_lemma =>
                         have hji : (j : Int) < (D.mcs.length : Int) := by omega
                         have HX := Lib.hid (fun h : mcB D D.mcs[j] = false => all_no hlt h)
                         have HY := Lib.hid (fun h : mcB D D.mcs[j] = true => all_next hlt hal h)
                         obtain ⟨bk, ok, rfl, hx⟩ := (HMC.out.fr fun _ _ _ x => x.fr hf).at hlt
                         rw [Nat.mul_comm 3 j] at hx
                         generalize D.mcs[j] = x at *
                         obtain ⟨rel⟩ := x
                         obtain ⟨n0, A2, l2, k2, c0, w1, c1, c2⟩ := hx
                         simp only at c0 c1 c2
                         have zb := lt_of_cell c0
                         have zw := lt_of_cell a0
                         clear hf hB hal hj w1
                         by_cases hm : rel = -1
                         · have HY9 := Lib.hid (HY.out (by simp [mcB, hm]))
                           subst hm
                           clear HX
                           go_wp2
                           go_roundw
                           case rel => exact ⟨j + 1, by omega, by go_num, Fr.alloc HFr.out _, HBr.out.fr (Fr.alloc (Fr.refl _) _), HY9.out⟩
                           case measure => simp [intOf]; omega
                         · have hm1 : (rel == -1) = false := by simp [hm]
                           have HC := Lib.hid (fun w1 (k : Fr wr w1) => patches_any (HD.out.fr (HFr.out.call k)) rel)
                           have HQ := Lib.hid (show mcB D ⟨rel⟩ = atB D.rels rel (fun a => !decide (a.kind = 1)) by simp [mcB, hm])
                           rw [HQ.out] at HX HY
                           generalize atB D.rels rel (fun a => !decide (a.kind = 1)) = q at *
                           clear HQ
                           go_wp2_with (go_at_call 52; refine (HC.out _ (Fr.alloc (Fr.refl wr) _)).mono ?_; rintro e w4 ⟨rfl, hf4⟩; have HF4 := Lib.hid ((Fr.alloc HFr.out _).call hf4); have HB4 := Lib.hid (HBr.out.fr ((Fr.alloc (Fr.refl wr) _).call hf4)); clear hf4)
                           · go_ret
                             rename_i hq
                             exact ⟨ret_bool (by rw [HR.out, H0.out, H1.out, H2.out, HX.out (by simpa [hm] using hq)]; simp), HF4.out⟩
                           · rename_i hq
                             go_roundw
                             case rel => exact ⟨j + 1, by omega, by go_num, HF4.out, HB4.out, HY.out (by simpa [hm] using hq)⟩
                             case measure => simp [intOf]; omega
                     · as_aux_lemma =>
                         obtain rfl : j = D.mcs.length := by omega
                         have H3 := Lib.hid (all_end hal)
                         clear hf hB hal hj
                         go_wp2
                         go_ret
                         exact ⟨ret_bool (by rw [HR.out, H0.out, H1.out, H2.out, H3.out]; simp), HFr.out⟩
end Go.Proofs.YtdipnhghdajplaaGreatDoor
