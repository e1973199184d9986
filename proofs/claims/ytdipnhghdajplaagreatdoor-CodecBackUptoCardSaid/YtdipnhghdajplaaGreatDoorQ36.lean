/- There and back: the walk of CodecBack. -/
import Derived.Test.YtdipnhghdajplaaGreatDoorQ35
namespace Go.Proofs.YtdipnhghdajplaaGreatDoor
open Go.RowKit
set_option linter.unusedSimpArgs false
set_option linter.unusedVariables false
set_option maxHeartbeats 51200000 in
set_option maxRecDepth 100000 in
theorem back_walk {w : World} {D : Ds} {v : Array Value} (hD : DescAt w D v) (hS : D.Small) (hL : D.Light) (hX : ∀ c ∈ D.cls, c.ex.length ≤ 1048576) (n : Int) (hn : I64 n) {V : Option Addr} {vs : List Int} (vc : Nat) (hV : RowOf IntAt 1 w V vs) (hVm : vs.length ≤ 1048576) (hVc : vs.length ≤ vc) (hVx : vc ≤ maxLen) {A : Option Addr} {bs : List Nat} (c : Nat) (hB : RowOf ByC 1 w A bs) (hm : bs.length ≤ 1048576) (hcap : bs.length ≤ c) (hcm : c ≤ maxLen)
   (alive : ∀ w : World, Calls Tryz.prog 10 #[] w fun e w' => e = .returned (.bool true) ∧ Fr w w') :
   Calls Tryz.prog 4 #[.agg v, .agg #[.int .i64 n, .slice V vs.length vc], .slice A bs.length c] w fun e w' => e = .returned (.bool true) ∧ Fr w w' := by
 have HAL := Lib.hid alive
 have HNW := Lib.hid (fun (w1 : World) (k : Fr w w1) => new_any (hD.fr k) hS hL hX)
 have HXL := Lib.hid hX
 have HBY := Lib.hid hB
 have HVI := Lib.hid hV
 have HNI := Lib.hid hn
 obtain ⟨s0, Fa, Ba, Ga, Ca, Ma, Ra, Ua, Xa, Ka, Na, Pa, fc, bc, gc, cc, mc, rc, uc, xc, kc, nl, nc, pc, rfl, h1, h2, h3, h4, h5, h6, h7, h8, h9⟩ := hD
 have HFS := Lib.hid h4
 have HDV := Lib.hid (show BlkAt ((w.alloc (.cells #[.string s0, .int .i64 D.order, .slice Fa D.files.length fc, .slice Ba D.als.length bc, .slice Ga D.nflags gc, .slice Ca D.cls.length cc, .slice Ma D.fms.length mc, .slice Ra D.rels.length rc, .slice Ua D.uses.length uc, .slice Xa D.rxs.length xc, .slice Ka D.mcs.length kc, .slice Na nl nc, .slice Pa D.regs.length pc] 33)).alloc (.cells #[.int .i64 n, .slice V vs.length vc] 48)) w.heap.size [.string s0, .int .i64 D.order, .slice Fa D.files.length fc, .slice Ba D.als.length bc, .slice Ga D.nflags gc, .slice Ca D.cls.length cc, .slice Ma D.fms.length mc, .slice Ra D.rels.length rc, .slice Ua D.uses.length uc, .slice Xa D.rxs.length xc, .slice Ka D.mcs.length kc, .slice Na nl nc, .slice Pa D.regs.length pc] from BlkAt.fr BlkAt.alloc (Fr.alloc (Fr.refl _) _))
 have HIV := Lib.hid (show BlkAt ((w.alloc (.cells #[.string s0, .int .i64 D.order, .slice Fa D.files.length fc, .slice Ba D.als.length bc, .slice Ga D.nflags gc, .slice Ca D.cls.length cc, .slice Ma D.fms.length mc, .slice Ra D.rels.length rc, .slice Ua D.uses.length uc, .slice Xa D.rxs.length xc, .slice Ka D.mcs.length kc, .slice Na nl nc, .slice Pa D.regs.length pc] 33)).alloc (.cells #[.int .i64 n, .slice V vs.length vc] 48)) (w.heap.size + 1) [.int .i64 n, .slice V vs.length vc] from by
   have := BlkAt.alloc (w := w.alloc (.cells #[.string s0, .int .i64 D.order, .slice Fa D.files.length fc, .slice Ba D.als.length bc, .slice Ga D.nflags gc, .slice Ca D.cls.length cc, .slice Ma D.fms.length mc, .slice Ra D.rels.length rc, .slice Ua D.uses.length uc, .slice Xa D.rxs.length xc, .slice Ka D.mcs.length kc, .slice Na nl nc, .slice Pa D.regs.length pc] 33)) (t := 48) (cs := #[.int .i64 n, .slice V vs.length vc])
   simpa using this)
 have HF1 := Lib.hid (show Fr w ((w.alloc (.cells #[.string s0, .int .i64 D.order, .slice Fa D.files.length fc, .slice Ba D.als.length bc, .slice Ga D.nflags gc, .slice Ca D.cls.length cc, .slice Ma D.fms.length mc, .slice Ra D.rels.length rc, .slice Ua D.uses.length uc, .slice Xa D.rxs.length xc, .slice Ka D.mcs.length kc, .slice Na nl nc, .slice Pa D.regs.length pc] 33)).alloc (.cells #[.int .i64 n, .slice V vs.length vc] 48)) from Fr.alloc (Fr.alloc (Fr.refl w) _) _)
 clear h1 h2 h3 h4 h5 h6 h7 h8 h9 hL hS hX hn hV hB alive
 go_enter Tryz.func4, Tryz.ntmps4
 go_wp2_with fail
 generalize World.alloc (World.alloc w _) _ = W1 at *
 generalize w.heap.size = kb at *
 refine (HAL.out _).mono ?_
 rintro e w3 ⟨rfl, hf3⟩
 have HF3 := Lib.hid hf3
 have d0 := (HDV.out.fr HF3.out) 0 _ rfl; have d1 := (HDV.out.fr HF3.out) 1 _ rfl; have d2 := (HDV.out.fr HF3.out) 2 _ rfl; have d3 := (HDV.out.fr HF3.out) 3 _ rfl; have d4 := (HDV.out.fr HF3.out) 4 _ rfl; have d5 := (HDV.out.fr HF3.out) 5 _ rfl; have d6 := (HDV.out.fr HF3.out) 6 _ rfl; have d7 := (HDV.out.fr HF3.out) 7 _ rfl; have d8 := (HDV.out.fr HF3.out) 8 _ rfl; have d9 := (HDV.out.fr HF3.out) 9 _ rfl; have d10 := (HDV.out.fr HF3.out) 10 _ rfl; have d11 := (HDV.out.fr HF3.out) 11 _ rfl; have d12 := (HDV.out.fr HF3.out) 12 _ rfl; have zd := lt_of_cell d0
 clear hf3
 go_wp2_with fail
 refine (HNW.out _ (HF1.out.call HF3.out)).mono ?_
 rintro e w4 ⟨hnew, hf4⟩
 have HF4 := Lib.hid (HF3.out.call hf4)
 clear hf4 d0 d1 d2 d3 d4 d5 d6 d7 d8 d9 d10 d11 d12 zd
 rcases hnew with ⟨hne, rfl⟩ | ⟨h0, pb, rfl, hco⟩
 · generalize (chkN D).2 = c2 at *
   have h0n : (c2 != 0) = true := bne_iff_ne.2 hne
   go_wp2
   go_ret
   exact ⟨rfl, HF1.out.call HF4.out⟩
 · have HCO := Lib.hid hco
   have H0 := Lib.hid h0
   have HWV := Lib.hid (HVI.out.fr fun _ _ _ x => IntAt.fr x (HF1.out.call HF4.out))
   have HWB := Lib.hid (HBY.out.fr fun _ _ _ x => x.fr (HF1.out.call HF4.out))
   have HWF := Lib.hid (HFS.out.fr fun _ _ _ x => x.fr (HF1.out.call HF4.out))
   have HD4 := Lib.hid (HDV.out.fr HF4.out)
   have HI4 := Lib.hid (HIV.out.fr HF4.out)
   have HFw := Lib.hid (HF1.out.call HF4.out)
   have HEN := Lib.hid (fun (w1 : World) (k : Fr w4 w1) (A : Option Addr) (c : Nat) (hr : RowOf IntAt 1 w1 A vs) => enc_any (hco.fr k) h0 HXL.out n c hr (Nat.le_trans hVm (by decide)))
   clear hco h0 HVI HBY HFS HDV HIV HNW HAL HF1 HF3 HF4
   go_wp2_with fail
   have HIX := Lib.hid (show ∀ v ∈ vs, I64 v from fun v hv => by obtain ⟨i, hi, rfl⟩ := List.mem_iff_getElem.1 hv; obtain ⟨_, _, _, hx⟩ := HWV.out.at hi; exact hx.1)
   have HNV := Lib.hid (show V = none → vs.length = 0 from fun h => by
     rcases Nat.eq_zero_or_pos vs.length with h0 | h0
     · exact h0
     · obtain ⟨b, o, e, _⟩ := HWV.out h0
       rw [h] at e; cases e)
   have HNB := Lib.hid (show A = none → bs.length = 0 from fun h => by
     rcases Nat.eq_zero_or_pos bs.length with h0 | h0
     · exact h0
     · obtain ⟨b, o, e, _⟩ := HWB.out h0
       rw [h] at e; cases e)
   refine wp_region_noPanic ?_
   refine wp_region_head (n := 13) (S := fun wx => BlkAt wx (kb + 1) [.int .i64 n, .slice V vs.length vc]) (by kernel_rfl) (by decide) ?_
   have HDF : Fr w4 w4.drew := Fr.drew (Fr.refl w4)
   have HD := HI4.out.fr HDF
   simp only [List.size_toArray, List.length_cons, List.length_nil, Nat.reduceAdd]
   refine wpHead_take (i := 0) (v := ?_) rfl (by kernel_rfl) (fun _ _ _ h => h) (Or.inl ⟨by rfl, ?hy0⟩) HD ?rest0
   case hy0 => (intro w' hw'; go_simp) <;> (try with_reducible rfl)
   (try simp only [Act.put, List.getElem_toArray, List.getElem_cons_zero, List.getElem_cons_succ, List.setIfInBounds_toArray, List.set_cons_zero, List.set_cons_succ])
   refine wpHead_take (i := 1) (v := ?_) rfl (by kernel_rfl) (fun _ _ _ h => h) (Or.inl ⟨by rfl, ?hy1⟩) HD ?rest1
   case hy1 => (intro w' hw'; go_simp) <;> (try with_reducible rfl)
   (try simp only [Act.put, List.getElem_toArray, List.getElem_cons_zero, List.getElem_cons_succ, List.setIfInBounds_toArray, List.set_cons_zero, List.set_cons_succ])
   refine wpHead_take (i := 2) (v := ?_) rfl (by kernel_rfl) (fun _ _ _ h => h) (Or.inl ⟨by rfl, ?hy2⟩) HD ?rest2
   case hy2 => (intro w' hw'; have g0 := hw' 0 _ rfl; go_simp) <;> (try with_reducible rfl)
   (try simp only [Act.put, List.getElem_toArray, List.getElem_cons_zero, List.getElem_cons_succ, List.setIfInBounds_toArray, List.set_cons_zero, List.set_cons_succ])
   refine wpHead_take (i := 4) (v := ?_) rfl (by kernel_rfl) (fun _ _ _ h => h) (Or.inl ⟨by rfl, ?hy4⟩) HD ?rest4
   case hy4 => (intro w' hw'; go_simp) <;> (try with_reducible rfl)
   (try simp only [Act.put, List.getElem_toArray, List.getElem_cons_zero, List.getElem_cons_succ, List.setIfInBounds_toArray, List.set_cons_zero, List.set_cons_succ])
   refine wpHead_take (i := 5) (v := ?_) rfl (by kernel_rfl) (fun _ _ _ h => h) (Or.inl ⟨by rfl, ?hy5⟩) HD ?rest5
   case hy5 => (intro w' hw'; have g1 := hw' 1 _ rfl; go_simp) <;> (try with_reducible rfl)
   (try simp only [Act.put, List.getElem_toArray, List.getElem_cons_zero, List.getElem_cons_succ, List.setIfInBounds_toArray, List.set_cons_zero, List.set_cons_succ])
   refine wpHead_go (i := 3) rfl (by kernel_rfl) (by decide) rfl (fun K hK => ?_)
   go_simp
   have HFA := Lib.hid (Fr.alloc HDF (.cells #[] 3))
   have HD2 := HI4.out.fr HFA.out
   refine hK _ _ HD2 ?_
   clear hK K HD HDF
   (try simp only [Act.put, List.getElem_toArray, List.getElem_cons_zero, List.getElem_cons_succ, List.setIfInBounds_toArray, List.set_cons_zero, List.set_cons_succ])
   refine wpHead_go (i := 6) rfl (by kernel_rfl) (by decide) rfl (fun K hK => ?_)
   refine wp_appendk _ (.tmp 35) (.tmp 37) 46 rfl w4.drew.heap.size 3 1 Tryz.underlying46 Tryz.infoI rfl (by decide) (.slice (some ⟨w4.drew.heap.size, 0, none⟩) 0 0) 0 [] rfl (own_new _ _) V vs.length vc (vs.map fun x : Int => Value.int .i64 x) rfl (by simp) (src_of (HWV.out.fr fun _ _ _ x => IntAt.fr x HFA.out) (fun _ _ _ h => h.2)) HNV.out ?_ ?_ ?_ ?_ ?_
   · intro u hu
     obtain ⟨x, _, rfl⟩ := List.mem_map.1 hu
     rfl
   · exact Nat.le_trans (by omega : 0 + vs.length ≤ 1048576) (by decide)
   · omega
   · simp
   intro v5 w5 HG5
   have hg5 := HG5.out
   (try rw [List.nil_append] at hg5)
   have HF5 := Lib.hid (show Fr w4 w5 from Fr.grown HFA.out hg5.2.1 (fun k e => by have e2 : w4.drew.heap.size = k := Option.some.inj e; rw [← e2]; exact Nat.le_refl _))
   obtain ⟨A5, c5, rfl, hrow5⟩ := grew_row (R := IntAt) (by simp) hg5 (fun b o x hx hc => ⟨HIX.out x hx, hc⟩)
   have HR5 := Lib.hid hrow5
   clear HG5 hg5 hrow5 HFA HD2
   have HD5 := HI4.out.fr HF5.out
   refine hK _ _ HD5 ?_
   clear hK K
   (try simp only [Act.put, List.getElem_toArray, List.getElem_cons_zero, List.getElem_cons_succ, List.setIfInBounds_toArray, List.set_cons_zero, List.set_cons_succ])
   refine wpHead_take (i := 7) (v := ?_) rfl (by kernel_rfl) (fun _ _ _ h => h) (Or.inl ⟨by rfl, ?hy7⟩) HD5 ?rest7
   case hy7 => (intro w' hw'; go_simp) <;> (try with_reducible rfl)
   (try simp only [Act.put, List.getElem_toArray, List.getElem_cons_zero, List.getElem_cons_succ, List.setIfInBounds_toArray, List.set_cons_zero, List.set_cons_succ])
   refine wpHead_go (i := 8) rfl (by kernel_rfl) (by decide) rfl (fun K hK => ?_)
   go_simp
   refine (HEN.out _ HF5.out A5 c5 HR5.out).mono ?_
   intro e w6 hep
   obtain ⟨B, out, er, rfl, hf6, hrow6, hcase⟩ := encP_row hep
   have HF6 := Lib.hid (HF5.out.call hf6)
   have HR6 := Lib.hid hrow6
   have HCS := Lib.hid hcase
   clear hep hf6 hrow6 hcase
   (try go_wp2_with fail)
   have HD6 := HI4.out.fr HF6.out
   refine hK _ _ HD6 ?_
   clear hK K HD5
   (try simp only [Act.put, List.getElem_toArray, List.getElem_cons_zero, List.getElem_cons_succ, List.setIfInBounds_toArray, List.set_cons_zero, List.set_cons_succ])
   refine wpHead_take (i := 9) (v := ?_) rfl (by kernel_rfl) (fun _ _ _ h => h) (Or.inl ⟨by rfl, ?hy9⟩) HD6 ?rest9
   case hy9 => (intro w' hw'; go_simp) <;> (try with_reducible rfl)
   (try simp only [Act.put, List.getElem_toArray, List.getElem_cons_zero, List.getElem_cons_succ, List.setIfInBounds_toArray, List.set_cons_zero, List.set_cons_succ])
   refine wpHead_take (i := 10) (v := ?_) rfl (by kernel_rfl) (fun _ _ _ h => h) (Or.inl ⟨by rfl, ?hy10⟩) HD6 ?rest10
   case hy10 => (intro w' hw'; go_simp) <;> (try with_reducible rfl)
   (try simp only [Act.put, List.getElem_toArray, List.getElem_cons_zero, List.getElem_cons_succ, List.setIfInBounds_toArray, List.set_cons_zero, List.set_cons_succ])
   refine wpHead_take (i := 11) (v := ?_) rfl (by kernel_rfl) (fun _ _ _ h => h) (Or.inl ⟨by rfl, ?hy11⟩) HD6 ?rest11
   case hy11 => (intro w' hw'; go_simp) <;> (try with_reducible rfl)
   (try simp only [Act.put, List.getElem_toArray, List.getElem_cons_zero, List.getElem_cons_succ, List.setIfInBounds_toArray, List.set_cons_zero, List.set_cons_succ])
   refine wpHead_take (i := 12) (v := ?_) rfl (by kernel_rfl) (fun _ _ _ h => h) (Or.inl ⟨by rfl, ?hy12⟩) HD6 ?rest12
   case hy12 => (intro w' hw'; go_simp) <;> (try with_reducible rfl)
   (try simp only [Act.put, List.getElem_toArray, List.getElem_cons_zero, List.getElem_cons_succ, List.setIfInBounds_toArray, List.set_cons_zero, List.set_cons_succ])
   refine wpHead_done (by kernel_rfl) ?_
   simp only [List.drop_succ_cons, List.drop_zero]
   go_wp2
   refine NoPanic.normal ?_
   have HFw6 := Lib.hid (HFw.out.call HF6.out)
   have d6 := (HD4.out.fr HF6.out) 6 _ rfl
   have i0 := (HI4.out.fr HF6.out) 0 _ rfl
   have i1 := (HI4.out.fr HF6.out) 1 _ rfl
   have zd := lt_of_cell d6
   have zi := lt_of_cell i0
   clear HD6 HR5 HF5 HEN
   rcases HCS.out with ⟨hno, rfl, rfl, rfl⟩ | ⟨k, hk, rfl, hcase⟩
   · clear HCS
     by_cases hneg : n < 0
     · have q1 : decide (n < 0) = true := decide_eq_true hneg
       go_wp2_with fail
       go_quiet (fail)
       go_wp2
       go_ret
       exact ⟨rfl, Fr.drewN HFw6.out _⟩
     · have q1 : decide (n < 0) = false := decide_eq_false hneg
       have hge : (D.fms.length : Int) ≤ n := by omega
       have q2 : decide ((D.fms.length : Int) ≤ n) = true := decide_eq_true hge
       go_wp2_with fail
       go_quiet (fail)
       go_wp2
       go_ret
       exact ⟨rfl, Fr.drewN HFw6.out _⟩
   · have HCS2 := Lib.hid hcase
     clear hcase HCS
     obtain ⟨bq, oq, rfl, hx⟩ := (HWF.out.fr fun _ _ _ x => x.fr HF6.out).at hk
     rw [Nat.mul_comm 5 k] at hx
     obtain ⟨n0, n1, A2, k2, A3, k3, A4, k4, _, _, u2, v2, c2, r2, _⟩ := hx
     have HAR := Lib.hid r2
     have zf := lt_of_cell c2
     clear r2
     have hki : (k : Int) < (D.fms.length : Int) := by omega
     have q1 : decide ((k : Int) < 0) = false := decide_eq_false (by omega)
     have q2 : decide ((D.fms.length : Int) ≤ (k : Int)) = false := decide_eq_false (by omega)
     have hol : (cfD D D.fms[k]).ops.length = D.fms[k].args.length := cf_len _ _ _
     by_cases hlen : vs.length = D.fms[k].args.length
     · have q3 : ((vs.length : Int) != (D.fms[k].args.length : Int)) = false := by rw [hlen]; simp
       have HC3 := Lib.hid (show (hasAll D (cfD D D.fms[k]).ops vs = false ∧ B = none ∧ out = [] ∧ er = 64) ∨ (hasAll D (cfD D D.fms[k]).ops vs = true ∧ er = 0 ∧ out = bytesW (outW (cfD D D.fms[k]) (esN D (cfD D D.fms[k]).ops vs)) (cfD D D.fms[k]).size) from by
         rcases HCS2.out with ⟨h1, _⟩ | ⟨_, h1⟩ | ⟨_, h1⟩
         · exact absurd (hlen.trans hol.symm) h1
         · exact .inl h1
         · exact .inr h1)
       have HST := Lib.hid (fun (j : Nat) (h1 : j < (cfD D D.fms[k]).ops.length) (h2 : j < D.fms[k].args.length) (h3 : j < vs.length) => (show hasAll D ((cfD D D.fms[k]).ops.take (j + 1)) (vs.take (j + 1)) = (hasAll D ((cfD D D.fms[k]).ops.take j) (vs.take j) && hasAt D (D.fms[k].args[j]) vs[j]) from by rw [hasAll_take D _ vs j h1 h3, cf_at D _ h1 h2]))
       have HOL := Lib.hid hol
       have HLE := Lib.hid hlen
       have HPJ := Lib.hid ((chk_pats H0.out).2 _ (List.getElem_mem hk))
       clear HCS2
       generalize hargs : D.fms[k].args = args at *
       generalize hcf : cfD D D.fms[k] = cf at *
       clear hlen hol
       go_wp2_with fail
       go_quiet (fail)
       rename_i nq
       have HF7 := Lib.hid (show Fr w6 (w6.drewN nq) from Fr.drewN (Fr.refl _) _)
       have d7 := HF7.out.get d6
       have i07 := HF7.out.get i0
       have i17 := HF7.out.get i1
       have c27 := HF7.out.get c2
       have zd7 := lt_of_cell d7
       have zi7 := lt_of_cell i07
       have zf7 := lt_of_cell c27
       clear d6 i0 i1 c2 zd zi zf
       generalize w6.drewN nq = w7 at *
       go_wp2_with fail
       have HD7 := Lib.hid (HF6.out.call HF7.out)
       clear d7 i07 i17 c27 zd7 zi7 zf7
       have HIB := Lib.hid (HI4.out.fr HD7.out)
       have HAR7 := Lib.hid (HAR.out.fr fun _ _ _ x => x.fr HF7.out)
       have HRB := Lib.hid (HR6.out.fr fun _ _ _ x => x.fr HF7.out)
       have HHA := Lib.hid (fun (w1 : World) (k1 : Fr w4 w1) (c v : Int) (hv : I64 v) => cHas_any (HCO.out.fr k1) (chk_lens H0.out).2.2 HXL.out c v hv)
       have q9 : decide (D.fms.length ≤ k) = false := decide_eq_false (by omega)
       (try simp only [q9])
       go_loopw [10, 83] (fun r i wr => RelBk D cf.ops vs args.length w7 r i wr) (fun _ i _ => args.length - (intOf i).toNat)
       case atStart => exact ⟨0, Nat.zero_le _, by simp [hasAll], rfl, Fr.refl _⟩
       case round =>
         obtain ⟨j, hj, rfl, rfl, hfr⟩ := hrel
         have HFR := Lib.hid hfr
         clear hfr
         by_cases hlt : j < args.length
         · have hji : (j : Int) < (args.length : Int) := by omega
           have hj0 : (0 : Int) ≤ (j : Int) := by omega
           have hjv : j < vs.length := by rw [HLE.out]; exact hlt
           have hjvi : (j : Int) < (vs.length : Int) := by omega
           have hst := HST.out j (by rw [HOL.out]; exact hlt) hlt hjv
           obtain ⟨ba, oa, rfl, nm, a0, _, a1⟩ := (HAR7.out.fr fun _ _ _ x => x.fr HFR.out).at hlt
           rw [Nat.mul_comm 2 j] at a0 a1
           obtain ⟨bv, ov, rfl, _, hv1⟩ := (HWV.out.fr fun _ _ _ x => IntAt.fr x (HD7.out.call HFR.out)).at hjv
           rw [Nat.one_mul] at hv1
           have hvI := HIX.out _ (List.getElem_mem hjv)
           have b1 := (HIB.out.fr HFR.out) 1 _ rfl
           have za := lt_of_cell a0
           have zb := lt_of_cell b1
           have zv := lt_of_cell hv1
           generalize args[j] = ac at *
           generalize vs[j] = v at *
           generalize hasAll D (cf.ops.take j) (vs.take j) = r0 at *
           go_wp2_with fail
           have HFB := Lib.hid (show Fr wr (wr.alloc (.cells #[.string nm, .int .i64 ac] 55)) from Fr.alloc (Fr.refl _) _)
           have x1 : (wr.alloc (.cells #[.string nm, .int .i64 ac] 55)).cell? ⟨wr.heap.size, 1, none⟩ = some (.int .i64 ac) := BlkAt.alloc (w := wr) (t := 55) (cs := #[.string nm, .int .i64 ac]) 1 _ rfl
           have b1 := HFB.out.get b1
           have hv1 := HFB.out.get hv1
           have zb := lt_of_cell b1
           have zv := lt_of_cell hv1
           have zx := lt_of_cell x1
           have HHB := Lib.hid (fun (w1 : World) (k : Fr (wr.alloc (.cells #[.string nm, .int .i64 ac] 55)) w1) => HHA.out w1 ((HD7.out.call HFR.out).call (HFB.out.call k)) ac v hvI)
           have HFT := Lib.hid (HFR.out.call HFB.out)
           clear a0 a1 za HFB
           generalize World.alloc wr _ = W12 at *
           generalize wr.heap.size = bx at *
           cases r0
           · go_quiet (fail)
             go_wp2
             go_roundw
             case rel => exact ⟨j + 1, by omega, by rw [hst]; rfl, by go_num, Fr.drewN HFT.out _⟩
             case measure => simp [intOf]; omega
           · have HSF := Lib.hid (fun (wx : World) (k : Fr W12 wx) => (⟨k.get x1, k.get b1, k.get hv1⟩ : wx.cell? ⟨bx, 1, none⟩ = some (.int .i64 ac) ∧ wx.cell? ⟨kb + 1, 1, none⟩ = some (.slice (some ⟨bv, ov, none⟩) vs.length vc) ∧ wx.cell? ⟨bv, ov + j, none⟩ = some (.int .i64 v)))
             go_region_held3 (fun wx => wx.cell? ⟨bx, 1, none⟩ = some (.int .i64 ac) ∧ wx.cell? ⟨kb + 1, 1, none⟩ = some (.slice (some ⟨bv, ov, none⟩) vs.length vc) ∧ wx.cell? ⟨bv, ov + j, none⟩ = some (.int .i64 v)) (first | exact HSF.out _ (Fr.refl _) | exact HSF.out _ (Fr.drew (Fr.refl _)) | exact HSF.out _ HF9.out) (first
               | (go_at_call 13; refine (HHB.out _ (by first | exact Fr.refl _ | exact Fr.drew (Fr.refl _))).mono ?_; rintro e w9 ⟨rfl, hf9⟩; have HF9 := Lib.hid (show Fr W12 w9 by first | exact hf9 | exact Fr.call (Fr.drew (Fr.refl _)) hf9); clear hf9))
             go_wp2
             go_roundw
             case rel => exact ⟨j + 1, by omega, by rw [hst]; rfl, by go_num, HFT.out.call HF9.out⟩
             case measure => simp [intOf]; omega
         · obtain rfl : j = args.length := by omega
           have HT1 := Lib.hid (show cf.ops.take args.length = cf.ops by rw [← HOL.out]; exact List.take_length)
           have HT2 := Lib.hid (show vs.take args.length = vs by rw [← HLE.out]; exact List.take_length)
           rw [HT1.out, HT2.out]
           clear hj hlt HST
           have HFX := Lib.hid ((HFw.out.call HD7.out).call HFR.out)
           rcases HC3.out with ⟨h1, rfl, rfl, rfl⟩ | ⟨h1, rfl, hout⟩
           · rw [h1]
             go_wp2
             go_ret
             exact ⟨by first | rfl | exact ret_bool (by simp), HFX.out⟩
           · rw [h1]
             have HOU := Lib.hid hout
             have hol : out.length = cf.size := by rw [hout, bytesW_len]
             have hsz := size_le (D := D) (f := D.fms[k]) (by rw [hargs]; exact HPJ.out)
             rw [hcf] at hsz
             have HH1 := Lib.hid h1
             have hol15 : out.length ≤ 15 := by omega
             have hol1 : 1 ≤ out.length := by omega
             have HRO := Lib.hid (HRB.out.fr fun _ _ _ x => x.fr HFR.out)
             have HRM := Lib.hid (HWB.out.fr fun _ _ _ x => x.fr (HD7.out.call HFR.out))
             have HOB := Lib.hid (show ∀ b ∈ out, b < 256 from fun b hb => by obtain ⟨i, hi, rfl⟩ := List.mem_iff_getElem.1 hb; obtain ⟨_, _, _, hx⟩ := HRO.out.at hi; exact hx.1)
             have HMB := Lib.hid (show ∀ b ∈ bs, b < 256 from fun b hb => by obtain ⟨i, hi, rfl⟩ := List.mem_iff_getElem.1 hb; obtain ⟨_, _, _, hx⟩ := HRM.out.at hi; exact hx.1)
             have hnB : B = none → out.length = 0 := fun h => by
               obtain ⟨b, o, e, _⟩ := HRO.out (by omega)
               rw [h] at e; cases e
             have HOC := Lib.hid hol
             clear hout h1 HC3 hol hsz
             go_wp2_with (at_builtin; refine wpList_appendk _ rfl (.tmp 112) (.tmp 113) 34 rfl wr.heap.size 5 1 Tryz.underlying34 Tryz.infoU8 rfl (by decide) (.slice (some ⟨wr.heap.size, 0, none⟩) 0 0) 0 [] rfl ?_ B out.length out.length (out.map fun x : Nat => Value.int .u8 (x : Int)) rfl ?_ ?_ ?_ ?_ ?_ ?_ ?_ ?_)
             · exact own_new _ _
             · simp
             · exact src_of (HRO.out.fr fun _ _ _ x => x.fr (Fr.alloc (Fr.refl wr) _)) (fun _ _ _ h => h.2)
             · exact hnB
             · intro u hu
               obtain ⟨x, _, rfl⟩ := List.mem_map.1 hu
               rfl
             · exact Nat.le_trans (by omega : 0 + out.length ≤ 1048576) (by decide)
             · omega
             · simp
             intro v8 w8 HG8
             have hg8 := HG8.out
             (try rw [List.nil_append] at hg8)
             have HF8 := Lib.hid (show Fr wr w8 from Fr.grown (Fr.alloc (Fr.refl wr) _) hg8.2.1 (fun k e => by have e2 : wr.heap.size = k := Option.some.inj e; omega))
             have hz8 : wr.heap.size < w8.heap.size := by
               have := hg8.2.1.size
               simp at this
               omega
             clear hnB
             go_wp2_with (at_builtin; refine wpList_appendk _ rfl (.tmp 114) (.tmp 115) 34 rfl wr.heap.size 5 1 Tryz.underlying34 Tryz.infoU8 rfl (by decide) v8 out.length (out.map fun x : Nat => Value.int .u8 (x : Int)) rfl hg8.1 A bs.length c (bs.map fun x : Nat => Value.int .u8 (x : Int)) rfl ?_ ?_ ?_ ?_ ?_ ?_ ?_ ?_)
             · simp
             · exact src_of (HRM.out.fr fun _ _ _ x => x.fr HF8.out) (fun _ _ _ h => h.2)
             · exact HNB.out
             · intro u hu
               obtain ⟨x, _, rfl⟩ := List.mem_map.1 hu
               rfl
             · exact Nat.le_trans (by omega : out.length + bs.length ≤ 1048591) (by decide)
             · omega
             · omega
             intro v9 w9 HG9
             have hg9 := HG9.out
             have HF9 := Lib.hid (show Fr wr w9 from Fr.grown HF8.out hg9.2.1 (fun k e => by
               rcases hg8.2.2 with h | h
               · rw [h] at e
                 have e2 : wr.heap.size = k := Option.some.inj e
                 omega
               · rw [h] at e
                 have e2 := Option.some.inj e
                 simp at e2
                 omega))
             rw [← List.map_append] at hg9
             obtain ⟨A9, c9, rfl, hrow9⟩ := grew_row (R := ByC) (by simp) hg9 (fun b o x hx hc => ⟨by
               rcases List.mem_append.1 hx with h | h
               · exact HOB.out x h
               · exact HMB.out x h, hc⟩)
             have HR9 := Lib.hid hrow9
             have hcmb : ∀ b ∈ out ++ bs, b < 256 := fun b hb => by
               rcases List.mem_append.1 hb with h | h
               · exact HOB.out b h
               · exact HMB.out b h
             have hdec : fitB D (wordsN (out ++ bs)) (out ++ bs).length (cfD D D.fms[k]) = true ∧ valsW D (wordsN (out ++ bs)) (cfD D D.fms[k]) = vs := by
               refine dec_enc (by rw [hargs]; exact HPJ.out) (by rw [hcf]; exact HLE.out.trans HOL.out.symm) HIX.out (by rw [hcf]; exact HH1.out) hcmb (by rw [hcf, List.length_append, HOC.out]; omega) (fun p hp => ?_)
               rw [hcf] at hp ⊢
               rw [bitB_append _ _ (by rw [HOC.out]; exact hp)]
               have hs15 : cf.size ≤ 15 := by rw [← HOC.out]; exact hol15
               rw [HOU.out]
               exact bytesW_bit _ hp (by omega)
             have HDJ := Lib.hid (show Calls Tryz.prog 14 #[.pointer (some ⟨pb, 0, none⟩), .slice A9 (out.length + bs.length) c9] w9 fun e w' => Fr w9 w' ∧ ∃ g, e = .returned (.tuple #[.agg #[.int .i64 (k : Int), .slice (some ⟨g, 0, none⟩) vs.length vs.length], .int .i64 (out.length : Int), .int .i64 0]) ∧ RowOf IntC 1 w' (some ⟨g, 0, none⟩) vs from by
               have h := cdec_any (HCO.out.fr ((HD7.out.call HFR.out).call HF9.out)) HXL.out (chk_pats H0.out).2 (chk_lens H0.out).2.1 c9 HR9.out (by rw [List.length_append]; exact Nat.le_trans (by omega : out.length + bs.length ≤ 1048591) (by decide))
               rw [List.length_append] at h
               exact h.mono fun e w' h1 => by
                 obtain ⟨h2, g3, h3, h4⟩ := decP_ok ⟨H0.out, HXL.out⟩ h1 hk hdec.1
                 rw [hdec.2] at h4
                 rw [hcf, HOL.out, ← HLE.out, ← HOC.out] at h3
                 exact ⟨h2, g3, h3, h4⟩)
             clear HG8 hg8 HG9 hg9 hrow9 hdec hcmb
             have HNL := Lib.hid (show vs.length ≤ maxLen from Nat.le_trans hVm (by decide))
             go_wp2_with fail
             refine HDJ.out.mono ?_
             rintro e w10 ⟨hf10, g3, rfl, hrow10⟩
             have HF10 := Lib.hid (HF9.out.call hf10)
             have i0 := (HIB.out.fr (HFR.out.call HF10.out)) 0 _ rfl
             have i1 := (HIB.out.fr (HFR.out.call HF10.out)) 1 _ rfl
             have zi := lt_of_cell i0
             have HFE := Lib.hid (show Fr w10 (w10.alloc (.cells #[.int .i64 (k : Int), .slice (some ⟨g3, 0, none⟩) vs.length vs.length] 48)) from Fr.alloc (Fr.refl _) _)
             have HSA := Lib.hid (same06_any (w := w10.alloc (.cells #[.int .i64 (k : Int), .slice (some ⟨g3, 0, none⟩) vs.length vs.length] 48)) (k : Int) (some ⟨g3, 0, none⟩) V vs.length vc vs (hrow10.fr fun _ _ _ x => IntC.fr x HFE.out) (rowC (HWV.out.fr fun _ _ _ x => IntAt.fr x ((HD7.out.call HFR.out).call (HF10.out.call HFE.out)))) HNL.out)
             have hol1i : (0 : Int) < (out.length : Int) := by omega
             clear hf10 hrow10
             go_wp2_with fail
             refine HSA.out.mono ?_
             rintro e w11 ⟨rfl, hf11⟩
             go_wp2
             go_ret
             exact ⟨by first | rfl | exact ret_bool (by simp), (HFX.out.call HF10.out).call (HFE.out.call hf11)⟩
     · have q3 : ((vs.length : Int) != (D.fms[k].args.length : Int)) = true := bne_iff_ne.2 (by omega)
       rcases HCS2.out with ⟨_, rfl, rfl, rfl⟩ | ⟨h1, _⟩ | ⟨h1, _⟩
       · clear HCS2
         generalize D.fms[k].args.length = al at *
         go_wp2_with fail
         go_quiet (fail)
         go_wp2
         go_ret
         exact ⟨rfl, Fr.drewN HFw6.out _⟩
       · exact absurd (h1.trans hol) hlen
       · exact absurd (h1.trans hol) hlen
end Go.Proofs.YtdipnhghdajplaaGreatDoor
