/- The parts that forms are made of: are they right? -/
import Derived.Test.YtdipnhghdajplaaGreatDoorP20
namespace Go.Proofs.YtdipnhghdajplaaGreatDoor
open Go.RowKit
set_option linter.unusedSimpArgs false
set_option linter.unusedVariables false
set_option maxHeartbeats 25600000 in
set_option maxRecDepth 100000 in
theorem partsRight_any {w : World} {D : Ds} {v : Array Value} (hD : DescAt w D v) (hS : D.Small) :
   Calls Tryz.prog 21 #[.agg v] w fun e w' => e = .returned (.bool (partsB D)) ∧ Fr w w' := by
 have HD := Lib.hid hD
 obtain ⟨s0, Fa, Ba, Ga, Ca, Ma, Ra, Ua, Xa, Ka, Na, Pa, fc, bc, gc, cc, mc, rc, uc, xc, kc, nl, nc, pc, rfl, h1, h2, h3, h4, h5, h6, h7, h8, h9⟩ := hD
 have HB := Lib.hid (show BlkAt (w.alloc (.cells #[.string s0, .int .i64 D.order, .slice Fa D.files.length fc, .slice Ba D.als.length bc, .slice Ga D.nflags gc, .slice Ca D.cls.length cc, .slice Ma D.fms.length mc, .slice Ra D.rels.length rc, .slice Ua D.uses.length uc, .slice Xa D.rxs.length xc, .slice Ka D.mcs.length kc, .slice Na nl nc, .slice Pa D.regs.length pc] 33)) w.heap.size [.string s0, .int .i64 D.order, .slice Fa D.files.length fc, .slice Ba D.als.length bc, .slice Ga D.nflags gc, .slice Ca D.cls.length cc, .slice Ma D.fms.length mc, .slice Ra D.rels.length rc, .slice Ua D.uses.length uc, .slice Xa D.rxs.length xc, .slice Ka D.mcs.length kc, .slice Na nl nc, .slice Pa D.regs.length pc] from BlkAt.alloc)
 have HF0 := Lib.hid (show Fr w (w.alloc (.cells #[.string s0, .int .i64 D.order, .slice Fa D.files.length fc, .slice Ba D.als.length bc, .slice Ga D.nflags gc, .slice Ca D.cls.length cc, .slice Ma D.fms.length mc, .slice Ra D.rels.length rc, .slice Ua D.uses.length uc, .slice Xa D.rxs.length xc, .slice Ka D.mcs.length kc, .slice Na nl nc, .slice Pa D.regs.length pc] 33)) from Fr.alloc (Fr.refl w) _)
 have HFR := Lib.hid (fun (j : Nat) (hj : j < D.files.length) w1 (k : Fr w w1) => fileRight_any (E := D.env []) (Aa := none) (Ga := Ga) (Ma := Ma) (env_at (h1.fr fun _ _ _ x => x.fr k) (h3.fr fun _ _ _ x => x.fr k) (fun hl => absurd hl (by simp))) (j : Int) (.string s0) (.int .i64 D.order) (.slice Ba D.als.length bc) (.slice Ra D.rels.length rc) (.slice Ua D.uses.length uc) (.slice Xa D.rxs.length xc) (.slice Ka D.mcs.length kc) (.slice Na nl nc) (.slice Pa D.regs.length pc) fc gc cc D.fms.length mc)
 simp only [Ds.env, List.length_map] at HFR
 have HFO := Lib.hid (fun (j : Nat) (hj : j < D.files.length) => (show (fileO { files := D.files, classes := D.cls.map fun c => (c.kind, c.file), nflags := D.nflags, args := [] } (j : Int)).isSome = fileB D.files[j] by simp [fileO, hj]; split <;> simp_all))
 have HAL := Lib.hid h2
 have HRG := Lib.hid h9
 have HSM := Lib.hid hS
 clear h1 h2 h3 h4 h5 h6 h7 h8 h9 hS
 by_cases hg : (D.order = 1 ∨ D.order = 2) ∧ D.files.length ≤ 8 ∧ D.nflags ≤ 16 ∧ D.cls.length ≤ 64 ∧ D.fms.length ≤ 512
 · obtain ⟨g1, g2, g3, g4, g5⟩ := hg
   have HR := Lib.hid (show partsB D = (D.files.all fileB && D.cls.all (clsB D) && D.als.all (alB D) && D.regs.all (alB D)) by
     unfold partsB; simp [g2, g3, g4, g5]; rcases g1 with g1 | g1 <;> simp [g1])
   have l1 : decide (8 < (D.files.length : Int)) = false := by simp; omega
   have l2 : decide (16 < (D.nflags : Int)) = false := by simp; omega
   have l3 : decide (64 < (D.cls.length : Int)) = false := by simp; omega
   have l4 : decide (512 < (D.fms.length : Int)) = false := by simp; omega
   generalize D.order = od at *
   rcases g1 with rfl | rfl
   · go_enter Tryz.func21, Tryz.ntmps21
     go_wp2
     go_loopw [38] (fun i wr => RelA w [.string s0, .int .i64 1, .slice Fa D.files.length fc, .slice Ba D.als.length bc, .slice Ga D.nflags gc, .slice Ca D.cls.length cc, .slice Ma D.fms.length mc, .slice Ra D.rels.length rc, .slice Ua D.uses.length uc, .slice Xa D.rxs.length xc, .slice Ka D.mcs.length kc, .slice Na nl nc, .slice Pa D.regs.length pc] D.files fileB i wr) (fun i _ => D.files.length - (intOf i).toNat)
     case atStart => exact ⟨0, by omega, rfl, Fr.alloc (Fr.refl w) _, BlkAt.alloc, by simp⟩
     case round =>
       obtain ⟨j, hj, rfl, hf, hB, hal⟩ := hrel
       have HFr := Lib.hid hf
       have HBr := Lib.hid hB
       have HAl := Lib.hid hal
       have a0 := hB 0 _ rfl; have a1 := hB 1 _ rfl; have a2 := hB 2 _ rfl; have a3 := hB 3 _ rfl; have a4 := hB 4 _ rfl; have a5 := hB 5 _ rfl; have a6 := hB 6 _ rfl; have a7 := hB 7 _ rfl; have a8 := hB 8 _ rfl; have a9 := hB 9 _ rfl; have a10 := hB 10 _ rfl; have a11 := hB 11 _ rfl; have a12 := hB 12 _ rfl
       by_cases hlt : j < D.files.length
       · have hji : (j : Int) < (D.files.length : Int) := by omega
         have HC := Lib.hid (HFO.out j hlt)
         have HX := Lib.hid (fun h : fileB D.files[j] = false => all_no hlt h)
         have HY := Lib.hid (fun h : fileB D.files[j] = true => all_next hlt hal h)
         generalize fileB D.files[j] = q at *
         clear hf hB hal hj
         go_wp2_with (go_at_call 45; refine (HFR.out j hlt _ HFr.out).mono ?_; rintro e w4 ⟨rfl, hf4⟩; rw [HC.out]; have HF4 := Lib.hid (HFr.out.call hf4); have HB4 := Lib.hid (HBr.out.fr hf4); clear hf4)
         · go_ret
           rename_i hq
           exact ⟨ret_bool (by rw [HR.out, HX.out (by simpa using hq)]; rfl), HF4.out⟩
         · rename_i hq
           go_roundw
           case rel => exact ⟨j + 1, by omega, by go_num, HF4.out, HB4.out, HY.out (by simpa using hq)⟩
           case measure => simp [intOf]; omega
       · obtain rfl : j = D.files.length := by omega
         have H1 := Lib.hid (all_end hal)
         clear hf hB hal hj
         go_wp2
         go_loopw [49] (fun i wr => RelA w [.string s0, .int .i64 1, .slice Fa D.files.length fc, .slice Ba D.als.length bc, .slice Ga D.nflags gc, .slice Ca D.cls.length cc, .slice Ma D.fms.length mc, .slice Ra D.rels.length rc, .slice Ua D.uses.length uc, .slice Xa D.rxs.length xc, .slice Ka D.mcs.length kc, .slice Na nl nc, .slice Pa D.regs.length pc] D.cls (clsB D) i wr) (fun i _ => D.cls.length - (intOf i).toNat)
         case atStart => exact ⟨0, by omega, rfl, HFr.out, HBr.out, by simp⟩
         case round =>
           clear HFr HBr HAl a0 a1 a2 a3 a4 a5 a6 a7 a8 a9 a10 a11 a12
           obtain ⟨j, hj, rfl, hf, hB, hal⟩ := hrel
           have HFr := Lib.hid hf
           have HBr := Lib.hid hB
           have a0 := hB 0 _ rfl; have a1 := hB 1 _ rfl; have a2 := hB 2 _ rfl; have a3 := hB 3 _ rfl; have a4 := hB 4 _ rfl; have a5 := hB 5 _ rfl; have a6 := hB 6 _ rfl; have a7 := hB 7 _ rfl; have a8 := hB 8 _ rfl; have a9 := hB 9 _ rfl; have a10 := hB 10 _ rfl; have a11 := hB 11 _ rfl; have a12 := hB 12 _ rfl
           by_cases hlt : j < D.cls.length
           · have hji : (j : Int) < (D.cls.length : Int) := by omega
             have HC := Lib.hid (clsAtB_at hlt)
             have HX := Lib.hid (fun h : clsB D D.cls[j] = false => all_no hlt h)
             have HY := Lib.hid (fun h : clsB D D.cls[j] = true => all_next hlt hal h)
             generalize clsB D D.cls[j] = q at *
             clear hf hB hal hj
             go_wp2_with (go_at_call 46; refine (classRight_any (HD.out.fr HFr.out) (j : Int)).mono ?_; rintro e w4 ⟨rfl, hf4⟩; rw [HC.out]; have HF4 := Lib.hid (HFr.out.call hf4); have HB4 := Lib.hid (HBr.out.fr hf4); clear hf4)
             · go_ret
               rename_i hq
               exact ⟨ret_bool (by rw [HR.out, HX.out (by simpa using hq)]; simp), HF4.out⟩
             · rename_i hq
               go_roundw
               case rel => exact ⟨j + 1, by omega, by go_num, HF4.out, HB4.out, HY.out (by simpa using hq)⟩
               case measure => simp [intOf]; omega
           · obtain rfl : j = D.cls.length := by omega
             have H2 := Lib.hid (all_end hal)
             have HRA := Lib.hid (fun w1 (k : Fr w w1) => regsThere_any (HD.out.fr k) Ba D.als bc (HAL.out.fr fun _ _ _ x => x.fr k) HSM.out.2.1)
             have HRB := Lib.hid (fun w1 (k : Fr w w1) => regsThere_any (HD.out.fr k) Pa D.regs pc (HRG.out.fr fun _ _ _ x => x.fr k) HSM.out.2.2.2.2.2.2.2.2.2)
             have HR2 := Lib.hid (show partsB D = (D.als.all (alB D) && D.regs.all (alB D)) by rw [HR.out, H1.out, H2.out]; simp)
             clear hf hB hal hj HR H1 H2
             generalize D.als.all (alB D) = qa at *
             generalize D.regs.all (alB D) = qb at *
             cases qa with
             | false =>
               go_wp2_with (go_at_call_of 47 (Value.slice Ba D.als.length bc); refine (HRA.out _ HFr.out).mono ?_; rintro e w4 ⟨rfl, hf4⟩; have HF4 := Lib.hid (HFr.out.call hf4); clear hf4)
               go_ret
               exact ⟨ret_bool (by rw [HR2.out]; rfl), HF4.out⟩
             | true =>
               go_wp2_with fail
               refine (HRA.out _ HFr.out).mono ?_
               rintro e w4 ⟨rfl, hf4⟩
               have HF4 := Lib.hid (HFr.out.call hf4)
               have HB4 := Lib.hid (HBr.out.fr hf4)
               clear hf4 a0 a1 a2 a3 a4 a5 a6 a7 a8 a9 a10 a11 a12
               have b0 := HB4.out 0 _ rfl; have b1 := HB4.out 1 _ rfl; have b2 := HB4.out 2 _ rfl; have b3 := HB4.out 3 _ rfl; have b4 := HB4.out 4 _ rfl; have b5 := HB4.out 5 _ rfl; have b6 := HB4.out 6 _ rfl; have b7 := HB4.out 7 _ rfl; have b8 := HB4.out 8 _ rfl; have b9 := HB4.out 9 _ rfl; have b10 := HB4.out 10 _ rfl; have b11 := HB4.out 11 _ rfl; have b12 := HB4.out 12 _ rfl
               go_wp2_with fail
               refine (HRB.out _ HF4.out).mono ?_
               rintro e w5 ⟨rfl, hf5⟩
               have HF5 := Lib.hid (HF4.out.call hf5)
               clear hf5
               go_wp2
               go_ret
               exact ⟨ret_bool (by rw [HR2.out]; simp), HF5.out⟩
   · go_enter Tryz.func21, Tryz.ntmps21
     go_wp2
     go_loopw [38] (fun i wr => RelA w [.string s0, .int .i64 2, .slice Fa D.files.length fc, .slice Ba D.als.length bc, .slice Ga D.nflags gc, .slice Ca D.cls.length cc, .slice Ma D.fms.length mc, .slice Ra D.rels.length rc, .slice Ua D.uses.length uc, .slice Xa D.rxs.length xc, .slice Ka D.mcs.length kc, .slice Na nl nc, .slice Pa D.regs.length pc] D.files fileB i wr) (fun i _ => D.files.length - (intOf i).toNat)
     case atStart => exact ⟨0, by omega, rfl, Fr.alloc (Fr.refl w) _, BlkAt.alloc, by simp⟩
     case round =>
       obtain ⟨j, hj, rfl, hf, hB, hal⟩ := hrel
       have HFr := Lib.hid hf
       have HBr := Lib.hid hB
       have HAl := Lib.hid hal
       have a0 := hB 0 _ rfl; have a1 := hB 1 _ rfl; have a2 := hB 2 _ rfl; have a3 := hB 3 _ rfl; have a4 := hB 4 _ rfl; have a5 := hB 5 _ rfl; have a6 := hB 6 _ rfl; have a7 := hB 7 _ rfl; have a8 := hB 8 _ rfl; have a9 := hB 9 _ rfl; have a10 := hB 10 _ rfl; have a11 := hB 11 _ rfl; have a12 := hB 12 _ rfl
       by_cases hlt : j < D.files.length
       · have hji : (j : Int) < (D.files.length : Int) := by omega
         have HC := Lib.hid (HFO.out j hlt)
         have HX := Lib.hid (fun h : fileB D.files[j] = false => all_no hlt h)
         have HY := Lib.hid (fun h : fileB D.files[j] = true => all_next hlt hal h)
         generalize fileB D.files[j] = q at *
         clear hf hB hal hj
         go_wp2_with (go_at_call 45; refine (HFR.out j hlt _ HFr.out).mono ?_; rintro e w4 ⟨rfl, hf4⟩; rw [HC.out]; have HF4 := Lib.hid (HFr.out.call hf4); have HB4 := Lib.hid (HBr.out.fr hf4); clear hf4)
         · go_ret
           rename_i hq
           exact ⟨ret_bool (by rw [HR.out, HX.out (by simpa using hq)]; rfl), HF4.out⟩
         · rename_i hq
           go_roundw
           case rel => exact ⟨j + 1, by omega, by go_num, HF4.out, HB4.out, HY.out (by simpa using hq)⟩
           case measure => simp [intOf]; omega
       · obtain rfl : j = D.files.length := by omega
         have H1 := Lib.hid (all_end hal)
         clear hf hB hal hj
         go_wp2
         go_loopw [49] (fun i wr => RelA w [.string s0, .int .i64 2, .slice Fa D.files.length fc, .slice Ba D.als.length bc, .slice Ga D.nflags gc, .slice Ca D.cls.length cc, .slice Ma D.fms.length mc, .slice Ra D.rels.length rc, .slice Ua D.uses.length uc, .slice Xa D.rxs.length xc, .slice Ka D.mcs.length kc, .slice Na nl nc, .slice Pa D.regs.length pc] D.cls (clsB D) i wr) (fun i _ => D.cls.length - (intOf i).toNat)
         case atStart => exact ⟨0, by omega, rfl, HFr.out, HBr.out, by simp⟩
         case round =>
           clear HFr HBr HAl a0 a1 a2 a3 a4 a5 a6 a7 a8 a9 a10 a11 a12
           obtain ⟨j, hj, rfl, hf, hB, hal⟩ := hrel
           have HFr := Lib.hid hf
           have HBr := Lib.hid hB
           have a0 := hB 0 _ rfl; have a1 := hB 1 _ rfl; have a2 := hB 2 _ rfl; have a3 := hB 3 _ rfl; have a4 := hB 4 _ rfl; have a5 := hB 5 _ rfl; have a6 := hB 6 _ rfl; have a7 := hB 7 _ rfl; have a8 := hB 8 _ rfl; have a9 := hB 9 _ rfl; have a10 := hB 10 _ rfl; have a11 := hB 11 _ rfl; have a12 := hB 12 _ rfl
           by_cases hlt : j < D.cls.length
           · have hji : (j : Int) < (D.cls.length : Int) := by omega
             have HC := Lib.hid (clsAtB_at hlt)
             have HX := Lib.hid (fun h : clsB D D.cls[j] = false => all_no hlt h)
             have HY := Lib.hid (fun h : clsB D D.cls[j] = true => all_next hlt hal h)
             generalize clsB D D.cls[j] = q at *
             clear hf hB hal hj
             go_wp2_with (go_at_call 46; refine (classRight_any (HD.out.fr HFr.out) (j : Int)).mono ?_; rintro e w4 ⟨rfl, hf4⟩; rw [HC.out]; have HF4 := Lib.hid (HFr.out.call hf4); have HB4 := Lib.hid (HBr.out.fr hf4); clear hf4)
             · go_ret
               rename_i hq
               exact ⟨ret_bool (by rw [HR.out, HX.out (by simpa using hq)]; simp), HF4.out⟩
             · rename_i hq
               go_roundw
               case rel => exact ⟨j + 1, by omega, by go_num, HF4.out, HB4.out, HY.out (by simpa using hq)⟩
               case measure => simp [intOf]; omega
           · obtain rfl : j = D.cls.length := by omega
             have H2 := Lib.hid (all_end hal)
             have HRA := Lib.hid (fun w1 (k : Fr w w1) => regsThere_any (HD.out.fr k) Ba D.als bc (HAL.out.fr fun _ _ _ x => x.fr k) HSM.out.2.1)
             have HRB := Lib.hid (fun w1 (k : Fr w w1) => regsThere_any (HD.out.fr k) Pa D.regs pc (HRG.out.fr fun _ _ _ x => x.fr k) HSM.out.2.2.2.2.2.2.2.2.2)
             have HR2 := Lib.hid (show partsB D = (D.als.all (alB D) && D.regs.all (alB D)) by rw [HR.out, H1.out, H2.out]; simp)
             clear hf hB hal hj HR H1 H2
             generalize D.als.all (alB D) = qa at *
             generalize D.regs.all (alB D) = qb at *
             cases qa with
             | false =>
               go_wp2_with (go_at_call_of 47 (Value.slice Ba D.als.length bc); refine (HRA.out _ HFr.out).mono ?_; rintro e w4 ⟨rfl, hf4⟩; have HF4 := Lib.hid (HFr.out.call hf4); clear hf4)
               go_ret
               exact ⟨ret_bool (by rw [HR2.out]; rfl), HF4.out⟩
             | true =>
               go_wp2_with fail
               refine (HRA.out _ HFr.out).mono ?_
               rintro e w4 ⟨rfl, hf4⟩
               have HF4 := Lib.hid (HFr.out.call hf4)
               have HB4 := Lib.hid (HBr.out.fr hf4)
               clear hf4 a0 a1 a2 a3 a4 a5 a6 a7 a8 a9 a10 a11 a12
               have b0 := HB4.out 0 _ rfl; have b1 := HB4.out 1 _ rfl; have b2 := HB4.out 2 _ rfl; have b3 := HB4.out 3 _ rfl; have b4 := HB4.out 4 _ rfl; have b5 := HB4.out 5 _ rfl; have b6 := HB4.out 6 _ rfl; have b7 := HB4.out 7 _ rfl; have b8 := HB4.out 8 _ rfl; have b9 := HB4.out 9 _ rfl; have b10 := HB4.out 10 _ rfl; have b11 := HB4.out 11 _ rfl; have b12 := HB4.out 12 _ rfl
               go_wp2_with fail
               refine (HRB.out _ HF4.out).mono ?_
               rintro e w5 ⟨rfl, hf5⟩
               have HF5 := Lib.hid (HF4.out.call hf5)
               clear hf5
               go_wp2
               go_ret
               exact ⟨ret_bool (by rw [HR2.out]; simp), HF5.out⟩
 · have HR := Lib.hid (show partsB D = false by
     unfold partsB; simp; intro a b c d e; exact absurd ⟨a, b, c, d, e⟩ hg)
   clear HFR HFO HAL HRG HSM HD
   go_enter Tryz.func21, Tryz.ntmps21
   go_wp2
   all_goals first
     | (go_ret; exact ⟨ret_bool (by rw [HR.out]), by first | exact Fr.alloc (Fr.refl w) _ | exact Fr.drewN (Fr.alloc (Fr.refl w) _) _⟩)
     | (exfalso; apply hg; simp_all; done)
     | (exfalso; apply hg; simp_all; omega)
     | fail "LEFT"
end Go.Proofs.YtdipnhghdajplaaGreatDoor
