/- The first form that isn't disjoint from one ahead of it: firstClash. -/
import Derived.Test.YtgldfokjnkmifaaGreatDoorP33
namespace Go.Proofs.YtgldfokjnkmifaaGreatDoor
open Go.RowKit
set_option linter.unusedSimpArgs false
set_option linter.unusedVariables false

theorem Tryz.infoL : (Tryz.prog.info? 180).map (fun i => (i.zero, i.size, i.bytes)) = some (some (.agg #[.int .u64 0, .int .u64 0, .int .u64 0, .int .u64 0, .slice none 0 0]), 5, 56) := by kernel_rfl
def RelFc (D : Ds) (W1 : World) (i av : Value) (wr : World) : Prop := ∃ (j : Nat) (ls : List Lk) (A : Option Addr) (cap : Nat), j ≤ D.fms.length ∧ i = .int .i64 (j : Int) ∧ av = .slice A j cap ∧ ls.length = j ∧ ls.map (·.L) = (D.fms.take j).map (layF D) ∧ Fr W1 wr ∧
  AheadAt W1.heap.size D wr A cap ls ∧ ∀ m, m < j → clashAt D m = false
def RelFi (L : Ly) (ls : List Lk) (w7 : World) (z : Value) (wr : World) : Prop := ∃ k : Nat, z = .int .i64 (k : Int) ∧ k ≤ ls.length ∧ Fr w7 wr ∧ (ls.take k).all (fun x => apB x.L L) = true
theorem all_nextL {α : Type} {l : List α} {P : α → Bool} {j : Nat} (h : j < l.length) (ha : (l.take j).all P = true) (hp : P l[j] = true) : (l.take (j + 1)).all P = true := by
  rw [List.take_succ_eq_append_getElem h, List.all_append, ha]; simp [hp]
theorem all_not {α : Type} {l : List α} {P : α → Bool} {j : Nat} (h : j < l.length) (hp : P l[j] = false) : l.all P = false := by
  rw [List.all_eq_false]; exact ⟨l[j], List.getElem_mem h, by simp [hp]⟩
set_option maxHeartbeats 25600000 in
set_option maxRecDepth 100000 in
theorem firstClash_any {w : World} {D : Ds} {v : Array Value} (hD : DescAt w D v) (hL : D.Light) (hP : ∀ f ∈ D.fms, patN D f.args f.pcs ≠ 0) (h512 : D.fms.length ≤ 512) :
    Calls Tryz.prog 34 #[.agg v] w fun e w' => e = .returned (clV D) ∧ Fr w w' := by
  have HD := Lib.hid hD
  have HLT := Lib.hid hL
  have HPN := Lib.hid hP
  obtain ⟨s0, Fa, Ba, Ga, Ca, Ma, Ra, Ua, Xa, Ka, Na, Pa, fc, bc, gc, cc, mc, rc, uc, xc, kc, nl, nc, pc, rfl, h1, h2, h3, h4, h5, h6, h7, h8, h9⟩ := hD
  have HFM := Lib.hid h4
  have HDV := Lib.hid (show BlkAt (w.alloc (.cells #[.string s0, .int .i64 D.order, .slice Fa D.files.length fc, .slice Ba D.als.length bc, .slice Ga D.nflags gc, .slice Ca D.cls.length cc, .slice Ma D.fms.length mc, .slice Ra D.rels.length rc, .slice Ua D.uses.length uc, .slice Xa D.rxs.length xc, .slice Ka D.mcs.length kc, .slice Na nl nc, .slice Pa D.regs.length pc] 33)) w.heap.size [.string s0, .int .i64 D.order, .slice Fa D.files.length fc, .slice Ba D.als.length bc, .slice Ga D.nflags gc, .slice Ca D.cls.length cc, .slice Ma D.fms.length mc, .slice Ra D.rels.length rc, .slice Ua D.uses.length uc, .slice Xa D.rxs.length xc, .slice Ka D.mcs.length kc, .slice Na nl nc, .slice Pa D.regs.length pc] from BlkAt.alloc)
  have HF1 := Lib.hid (show Fr w (w.alloc (.cells #[.string s0, .int .i64 D.order, .slice Fa D.files.length fc, .slice Ba D.als.length bc, .slice Ga D.nflags gc, .slice Ca D.cls.length cc, .slice Ma D.fms.length mc, .slice Ra D.rels.length rc, .slice Ua D.uses.length uc, .slice Xa D.rxs.length xc, .slice Ka D.mcs.length kc, .slice Na nl nc, .slice Pa D.regs.length pc] 33)) from Fr.alloc (Fr.refl w) _)
  have HZ1 := Lib.hid (show (w.alloc (.cells #[.string s0, .int .i64 D.order, .slice Fa D.files.length fc, .slice Ba D.als.length bc, .slice Ga D.nflags gc, .slice Ca D.cls.length cc, .slice Ma D.fms.length mc, .slice Ra D.rels.length rc, .slice Ua D.uses.length uc, .slice Xa D.rxs.length xc, .slice Ka D.mcs.length kc, .slice Na nl nc, .slice Pa D.regs.length pc] 33)).heap.size = w.heap.size + 1 by simp)
  have HLY := Lib.hid (fun (w1 : World) (k : Fr w w1) fn fs Aa Bp Cs args pcs ac bc2 cl cc2 => lay_any HD.out k fn fs Aa Bp Cs args pcs ac bc2 cl cc2)
  clear h1 h2 h3 h4 h5 h6 h7 h8 h9 hL hP
  obtain ⟨cv, hcv⟩ : ∃ cv, clV D = cv := ⟨_, rfl⟩
  rw [hcv]
  have HCV := Lib.hid hcv
  clear hcv
  go_enter Tryz.func34, Tryz.ntmps34
  have e6 := HDV.out 6 _ rfl
  go_wp2
  generalize World.alloc w _ = W1 at *
  clear e6
  go_loopw [13, 4] (fun i av wr => RelFc D W1 i av wr) (fun i _ _ => D.fms.length - (intOf i).toNat)
  case atStart => exact ⟨0, [], none, 0, Nat.zero_le _, rfl, rfl, rfl, by simp, Fr.refl _, ⟨World.ownsRow_nil _ _ _ _, by simp⟩, fun m hm => absurd hm (by omega)⟩
  case round =>
    obtain ⟨j, ls, A, cap, hj, rfl, rfl, hlj, hmap, hf, hah, hno⟩ := hrel
    subst hlj
    have HAH := Lib.hid hah
    have HNO := Lib.hid hno
    have HF := Lib.hid hf
    clear hah hno
    by_cases hlt : ls.length < D.fms.length
    · have HCL := Lib.hid (clash_round hlt hmap)
      have HMP := Lib.hid hmap
      have HTK := Lib.hid (List.take_succ_eq_append_getElem (l := D.fms) hlt)
      obtain ⟨bm, om, rfl, hx⟩ := (HFM.out.fr fun _ _ _ x => x.fr (HF1.out.call hf)).at hlt
      rw [Nat.mul_comm 5 ls.length] at hx
      have HMEM := Lib.hid (List.getElem_mem hlt)
      generalize D.fms[ls.length] = f at *
      obtain ⟨f0, f1, A2, k2, A3, k3, A4, k4, c0, c1, u2, v2, c2, r2, u3, v3, c3, r3, u4, v4, c4, r4⟩ := hx
      have HR2 := Lib.hid r2
      have HR3 := Lib.hid r3
      have HPF := Lib.hid (HPN.out f HMEM.out)
      have HLF := Lib.hid (HLT.out f HMEM.out)
      have d0 := (HDV.out.fr hf) 0 _ rfl; have d1 := (HDV.out.fr hf) 1 _ rfl; have d2 := (HDV.out.fr hf) 2 _ rfl; have d3 := (HDV.out.fr hf) 3 _ rfl; have d4 := (HDV.out.fr hf) 4 _ rfl; have d5 := (HDV.out.fr hf) 5 _ rfl; have d6 := (HDV.out.fr hf) 6 _ rfl; have d7 := (HDV.out.fr hf) 7 _ rfl; have d8 := (HDV.out.fr hf) 8 _ rfl; have d9 := (HDV.out.fr hf) 9 _ rfl; have d10 := (HDV.out.fr hf) 10 _ rfl; have d11 := (HDV.out.fr hf) 11 _ rfl; have d12 := (HDV.out.fr hf) 12 _ rfl
      have zd := lt_of_cell d0
      have zc := lt_of_cell c0
      have hji : (ls.length : Int) < (D.fms.length : Int) := by omega
      clear u2 v2 u3 v3 u4 v4 r2 r3 r4 hmap
      have HFX := Lib.hid (Fr.alloc (Fr.refl wr) (.cells #[.string f0, .string f1, .slice A2 f.args.length k2, .slice A3 f.pcs.length k3, .slice A4 f.sem.length k4] 43))
      obtain ⟨L, hLD⟩ : ∃ L, layD D f.args f.pcs = L := ⟨_, rfl⟩
      have HLY2 := Lib.hid (HLY.out _ (HF1.out.call (HF.out.call HFX.out)) f0 f1 A2 A3 A4 f.args f.pcs k2 k3 f.sem.length k4 (HR2.out.fr fun _ _ _ x => x.fr HFX.out) (HR3.out.fr fun _ _ _ x => x.fr HFX.out) HLF.out HPF.out)
      rw [hLD] at HLY2
      have HLD := Lib.hid hLD
      clear hLD
      go_wp2_with fail
      refine HLY2.out.mono ?_
      rintro e w6 ⟨O, oc, rfl, hf6, hok6, hst6⟩
      have HF6 := Lib.hid (HFX.out.call hf6)
      have HOK := Lib.hid hok6
      have HST := Lib.hid hst6
      have HZ6 := Lib.hid (show wr.heap.size + 1 ≤ w6.heap.size by have := hf6.size; simp at this; omega)
      simp only [lyC]
      clear hf6 hok6 hst6 d0 d1 d2 d3 d4 d5 d6 d7 d8 d9 d10 d11 d12 c0 c1 c2 c3 c4 zd zc HLY2
      have HBL := Lib.hid (BlkAt.alloc (w := w6) (t := 180) (cs := #[.int .u64 (L.z0 : Int), .int .u64 (L.z1 : Int), .int .u64 (L.u0 : Int), .int .u64 (L.u1 : Int), .slice O L.ops.length oc]))
      have HF7 := Lib.hid (Fr.alloc (Fr.refl w6) (.cells #[.int .u64 (L.z0 : Int), .int .u64 (L.z1 : Int), .int .u64 (L.u0 : Int), .int .u64 (L.u1 : Int), .slice O L.ops.length oc] 180))
      have HA7 := Lib.hid (HAH.out.fr (HF6.out.call HF7.out))
      go_wp2_with fail
      have HLS : Hid (∀ (w' : World), Fr (w6.alloc (.cells #[.int .u64 (L.z0 : Int), .int .u64 (L.z1 : Int), .int .u64 (L.u0 : Int), .int .u64 (L.u1 : Int), .slice O L.ops.length oc] 180)) w' → RowOf OpAt 8 w' O L.ops) := Lib.hid (fun w' k => HST.out w' fun b _ hlt => (HF7.out.call k).block b hlt)
      have HSTB := Lib.hid (stab_of (row := (Value.slice A ls.length cap).ownBlock) HST.out (fun b e => by
        have h1 := World.ownsRow.lt HAH.out.row b e
        have h2 := HZ1.out
        refine ⟨by omega, ?_⟩
        simp; omega))
      have HW7 := Lib.hid (HF6.out.call HF7.out)
      have HS7 := Lib.hid (HSTB.out.fr HF7.out)
      have HWW := Lib.hid (HF.out.call HW7.out)
      clear HST HSTB HF6 HF7 HFX
      generalize World.alloc w6 _ = W7 at *
      generalize w6.heap.size = pl at *
      have hl512 : ls.length ≤ 511 := by omega
      go_loopw [23] (fun z w' => RelFi L ls W7 z w') (fun z _ => ls.length - (intOf z).toNat)
      case atStart => exact ⟨0, rfl, Nat.zero_le _, Fr.refl _, by simp⟩
      case round =>
        obtain ⟨k, rfl, hk, hf9, hal⟩ := hrel
        have HF9 := Lib.hid hf9
        by_cases hkl : k < ls.length
        · have HOPK := Lib.hid (HA7.out.ops _ (List.getElem_mem hkl))
          have HNX := Lib.hid (fun h => all_nextL hkl hal h)
          have HNT := Lib.hid (fun h => all_not (P := fun x => apB x.L L) hkl h)
          obtain ⟨g, rfl, _, _, hc⟩ := (HA7.out.fr hf9).at hkl
          generalize ls[k] = X at *
          have e0 : wr.cell? ⟨g, k * 5, none⟩ = some (.int .u64 (X.L.z0 : Int)) := hc 0 (.int .u64 (X.L.z0 : Int)) rfl; have e1 := hc 1 (.int .u64 (X.L.z1 : Int)) rfl; have e2 := hc 2 (.int .u64 (X.L.u0 : Int)) rfl; have e3 := hc 3 (.int .u64 (X.L.u1 : Int)) rfl; have e4 := hc 4 (.slice X.O X.L.ops.length X.oc) rfl
          have b0 := HBL.out.fr hf9 0 _ rfl; have b1 := HBL.out.fr hf9 1 _ rfl; have b2 := HBL.out.fr hf9 2 _ rfl; have b3 := HBL.out.fr hf9 3 _ rfl; have b4 := HBL.out.fr hf9 4 _ rfl
          have ze := lt_of_cell e0
          have zb := lt_of_cell b0
          have hki : (k : Int) < (ls.length : Int) := by omega
          have HAP := Lib.hid (fun (W : World) (h : Fr wr W) => apart_any HOPK.out.1 HOK.out X.O O X.oc oc ((HOPK.out.2.fr (HF9.out.call h)).now) (HLS.out W (HF9.out.call h)))
          obtain ⟨q, hq⟩ : ∃ q, apB X.L L = q := ⟨_, rfl⟩
          have HQ := Lib.hid hq
          rw [hq] at HAP
          clear hc hf9 hal hq
          go_wp2_with fail
          refine (HAP.out _ (Fr.alloc (Fr.refl _) _)).mono ?_
          rintro e w10 ⟨rfl, hf10⟩
          have HF10 := Lib.hid (HF9.out.call ((Fr.alloc (Fr.refl wr) _).call hf10))
          clear hf10 e0 e1 e2 e3 e4 b0 b1 b2 b3 b4 ze zb
          cases q with
          | true =>
            have HN := Lib.hid (HNX.out HQ.out)
            go_wp2
            go_roundw
            case rel => exact ⟨k + 1, by go_num, by omega, HF10.out, HN.out⟩
            case measure => simp [intOf]; omega
          | false =>
            have HV := Lib.hid (show cv = .tuple #[.int .i64 (ls.length : Int), .bool true] by
              rw [← HCV.out]
              refine clV_at hlt HNO.out ?_
              rw [HCL.out, show layF D f = L from HLD.out, HNT.out HQ.out]; rfl)
            go_wp2
            go_ret2
            exact ⟨by rw [HV.out]; rfl, HF1.out.call (HWW.out.call HF10.out)⟩
        · obtain rfl : k = ls.length := by omega
          rw [List.take_length] at hal
          have HNN := Lib.hid (show clashAt D ls.length = false by rw [HCL.out, show layF D f = L from HLD.out, hal]; rfl)
          have b0 := HBL.out.fr hf9 0 _ rfl; have b1 := HBL.out.fr hf9 1 _ rfl; have b2 := HBL.out.fr hf9 2 _ rfl; have b3 := HBL.out.fr hf9 3 _ rfl; have b4 := HBL.out.fr hf9 4 _ rfl
          have zb := lt_of_cell b0
          have HA9 := Lib.hid (HA7.out.fr hf9)
          have HS9 := Lib.hid (HS7.out.fr hf9)
          have HZ9 := Lib.hid (show W1.heap.size ≤ wr.heap.size from (HWW.out.call hf9).size)
          clear hal hf9 HLS HA7 HS7
          go_wp2_with (at_builtin; refine wpList_appendk _ rfl (.tmp 33) (.tmp 35) 186 rfl W1.heap.size 180 5 Tryz.underlying186 Tryz.infoL rfl (by decide) (.slice A ls.length cap) ls.length (flatL ls) rfl ?_ (some ⟨wr.heap.size, 0, none⟩) 1 1 (lkC ⟨L, O, oc⟩) rfl ?_ ?_ (fun h => by cases h) ?_ ?_ ?_ ?_ ?_)
          · exact (HA9.out.fr (Fr.alloc (Fr.refl wr) _)).row
          · rfl
          · intro _
            refine ⟨_, rfl, fun j u hj => ?_⟩
            rw [add_zero_k2]
            exact (BlkAt.alloc (w := wr) (t := 180) (cs := #[.int .u64 (L.z0 : Int), .int .u64 (L.z1 : Int), .int .u64 (L.u0 : Int), .int .u64 (L.u1 : Int), .slice O L.ops.length oc])) j u hj
          · intro u hu; simp [lkC, lyC] at hu; rcases hu with rfl | rfl | rfl | rfl | rfl <;> rfl
          · unfold maxLen; omega
          · omega
          · have := HZ9.out; simp; omega
          intro v6 w8 HG
          have HW := Lib.hid (Fr.alloc (Fr.refl wr) (.cells #[.int .u64 (L.z0 : Int), .int .u64 (L.z1 : Int), .int .u64 (L.u0 : Int), .int .u64 (L.u1 : Int), .slice O L.ops.length oc] 180))
          obtain ⟨g, cap', rfl, _, _⟩ := World.ownsRow.form HG.out.1 (Nat.succ_pos _)
          have HNA := Lib.hid ((HA9.out.fr HW.out).next HG.out HOK.out (HS9.out.fr HW.out))
          have HF8 := Lib.hid (show Fr W1 w8 from Fr.grown ((HWW.out.call HF9.out).call HW.out) HG.out.2.1 (fun k e => (World.ownsRow.lt HAH.out.row k e).1))
          clear HG HA9 HS9 b0 b1 b2 b3 b4
          go_wp2
          go_roundw
          case rel =>
            refine ⟨ls.length + 1, ls ++ [⟨L, O, oc⟩], some ⟨g, 0, none⟩, cap', by omega, by go_num, rfl, by simp, ?_, HF8.out, HNA.out, fun m hm => ?_⟩
            · rw [List.map_append, HMP.out, HTK.out, List.map_append]
              simp only [List.map_cons, List.map_nil]
              rw [show layF D f = L from HLD.out]
            · rcases Nat.lt_or_ge m ls.length with h | h
              · exact HNO.out m h
              · obtain rfl : m = ls.length := by omega
                exact HNN.out
          case measure => simp [intOf]; omega
    · have HV := Lib.hid (show cv = .tuple #[.int .i64 0, .bool false] by
        rw [← HCV.out]
        exact clV_no fun m hm => HNO.out m (by omega))
      clear hmap hf
      go_wp2
      go_ret2
      exact ⟨by rw [HV.out]; rfl, HF1.out.call HF.out⟩
end Go.Proofs.YtgldfokjnkmifaaGreatDoor
