/- Package codec's layout of a form: lay. -/
import Derived.Test.YtdipnhghdajplaaGreatDoorP30
import Derived.Test.YtdipnhghdajplaaGreatDoorP24
namespace Go.Proofs.YtdipnhghdajplaaGreatDoor
open Go.RowKit
set_option linter.unusedSimpArgs false
set_option linter.unusedVariables false
def OcX (D : Ds) (args : List Int) (i : Nat) (o : Oc) : Prop := args[i]? = some o.cls ∧ (o.bits : Int) = bitsAt D args i ∧ o.bits ≤ 64
structure CfR (W3 : World) (lb : Nat) (os : List Oc) (O : Option Addr) (oc : Nat) (f : Cf) (wr : World) : Prop where
 fr : Fr W3 wr
 lay : CfAt lb (lb + 1) wr O oc os f
 ok : CfOk f
def RelC1 (D : Ds) (args : List Int) (size : Nat) (W3 : World) (lb : Nat) (i : Value) (wr : World) : Prop := ∃ (os : List Oc) (O : Option Addr) (oc : Nat), os.length ≤ args.length ∧ i = .int .i64 (os.length : Int) ∧ Fr W3 wr ∧
 OcsAt size lb (lb + 1) wr O oc os ∧ lb + 1 ≤ wr.heap.size ∧ ∀ i o, os[i]? = some o → OcX D args i o
def RelC2 (D : Ds) (args : List Int) (pcs : List Pc) (bits sz : Nat) (T : Cf) (W3 : World) (lb : Nat) (os : List Oc) (O : Option Addr) (oc : Nat) (i nv : Value) (wr : World) : Prop := ∃ (j m : Nat) (f : Cf), j ≤ pcs.length ∧ i = .int .i64 (j : Int) ∧ nv = .int .i64 (m : Int) ∧
 CfR W3 lb os O oc f wr ∧ f.size = sz ∧ layC D.order bits (wL D args (pcs.drop j)) m f = T ∧ m + sumN D args (pcs.drop j) = bits
def RelC3 (D : Ds) (args : List Int) (pcs : List Pc) (bits sz : Nat) (T : Cf) (W3 : World) (lb : Nat) (os : List Oc) (O : Option Addr) (oc : Nat) (j N : Nat) (p : Pc) (pb : Nat) (pv : List Value) (bv nv : Value) (wr : World) : Prop := ∃ (c m : Nat) (f : Cf), bv = .int .i64 (c : Int) ∧ nv = .int .i64 (m : Int) ∧ c ≤ N ∧
 CfR W3 lb os O oc f wr ∧ f.size = sz ∧ layC D.order bits (wP p (N - c) ++ wL D args (pcs.drop (j + 1))) m f = T ∧ m + (N - c) + sumN D args (pcs.drop (j + 1)) = bits ∧ BlkAt wr pb pv
theorem CfR.frame {W3 : World} {lb : Nat} {os : List Oc} {O : Option Addr} {oc : Nat} {f : Cf} {wr w' : World} (h : CfR W3 lb os O oc f wr) (k : Fr wr w') : CfR W3 lb os O oc f w' :=
 ⟨h.fr.call k, h.lay.fr k, h.ok⟩
theorem CfR.to {W3 : World} {lb : Nat} {os : List Oc} {O : Option Addr} {oc : Nat} {f f' : Cf} {wr w' : World} (h : CfR W3 lb os O oc f wr) (hz : W3.heap.size = lb) (k : Below lb wr w') (hl : CfAt lb (lb + 1) w' O oc os f') (ho : CfOk f') : CfR W3 lb os O oc f' w' :=
 ⟨h.fr.below k (by omega), hl, ho⟩
theorem putC_size (x : Bt) (q : Nat) (f : Cf) : (putC x q f).size = f.size := by
 have h1 : ∀ f : Cf, (cLit f q).size = f.size := fun f => by unfold cLit; split <;> rfl
 have h2 : ∀ f : Cf, (cOne f q).size = f.size := fun f => by unfold cOne; split <;> rfl
 unfold putC
 split
 · split
   · rfl
   · split
     · rw [h1, h2]
     · exact h1 f
 · rfl
theorem cf0_start {D : Ds} {args : List Int} {size : Nat} {os : List Oc} (hX : ∀ i o, os[i]? = some o → OcX D args i o) (hl : os.length = args.length) : (cf0 D args size).ops.length = os.length ∧ ∀ (i : Nat) (o : Oc), os[i]? = some o → (cf0 D args size).ops[i]? = some (o.cls, List.replicate o.bits 0) := by
 refine ⟨by simp [cf0, hl], fun i o ho => ?_⟩
 obtain ⟨h1, h2, _⟩ := hX i o ho
 have h3 : ((D.cls[o.cls.toNat]?).getD ⟨0, 0, 0, 0, 0, []⟩).bits = (o.bits : Int) := by
   rw [h2]; unfold bitsAt; rw [h1]; dsimp only
   cases D.cls[o.cls.toNat]? <;> rfl
 simp only [cf0, List.getElem?_map, h1, Option.map_some, op0C, h3]
 rfl
theorem cf0_ok (D : Ds) (args : List Int) (size : Nat) : CfOk (cf0 D args size) := ⟨(by decide : 0 < 18446744073709551616), (by decide : 0 < 18446744073709551616), (by decide : 0 < 18446744073709551616), (by decide : 0 < 18446744073709551616)⟩
theorem l14_keep {wx : World} {pb m lb : Nat} {x0 x1 x2 x3 o z : Value} (h : BlkAt wx pb [x0, x1, x2, x3]) (h1 : wx.cell? ⟨m, 1, none⟩ = some o) (h2 : wx.cell? ⟨lb, 0, none⟩ = some z) : (wx.cell? ⟨pb, 0, none⟩ = some x0 ∧ wx.cell? ⟨pb, 1, none⟩ = some x1 ∧ wx.cell? ⟨pb, 2, none⟩ = some x2 ∧ wx.cell? ⟨pb, 3, none⟩ = some x3) ∧ wx.cell? ⟨m, 1, none⟩ = some o ∧ wx.cell? ⟨lb, 0, none⟩ = some z :=
 ⟨⟨h 0 _ rfl, h 1 _ rfl, h 2 _ rfl, h 3 _ rfl⟩, h1, h2⟩
theorem set7L (wr : World) (b : Nat) (v0 v1 v2 v3 v4 v5 v6 : Value) : Below b wr (((((((wr.setCell ⟨b, 0, none⟩ v0).setCell ⟨b, 1, none⟩ v1).setCell ⟨b, 2, none⟩ v2).setCell ⟨b, 3, none⟩ v3).setCell ⟨b, 4, none⟩ v4).setCell ⟨b, 5, none⟩ v5).setCell ⟨b, 6, none⟩ v6) ∧ (∀ c, c ≠ b → (((((((wr.setCell ⟨b, 0, none⟩ v0).setCell ⟨b, 1, none⟩ v1).setCell ⟨b, 2, none⟩ v2).setCell ⟨b, 3, none⟩ v3).setCell ⟨b, 4, none⟩ v4).setCell ⟨b, 5, none⟩ v5).setCell ⟨b, 6, none⟩ v6).heap[c]? = wr.heap[c]?) := by
 have h := set5L wr b v0 v1 v2 v3 v4
 exact ⟨Below.setCell (Below.setCell h.1 (Nat.le_refl b) _) (Nat.le_refl b) _, fun c e => (Below.heap_setCell _ _ _ c e).trans ((Below.heap_setCell _ _ _ c e).trans (h.2 c e))⟩
theorem clay_end {w W3 wr w' : World} {lb m oc : Nat} {os : List Oc} {O : Option Addr} {T : Cf} (hR : CfR W3 lb os O oc T wr) (h3 : Fr w W3) (hm : w.heap.size = m) (hlb : m + 2 ≤ lb) (hs : Below (m + 1) wr w' ∧ ∀ c, c ≠ m + 1 → w'.heap[c]? = wr.heap[c]?) :
   ∃ O' oc', (Ending.returned (.agg (cfV T O T.ops.length oc).toArray)) = .returned (.agg (cfV T O' T.ops.length oc').toArray) ∧ Fr w w' ∧ CfOk T ∧ ∀ w'' : World, (∀ b, w.heap.size ≤ b → b < w'.heap.size → w''.heap[b]? = w'.heap[b]?) → RowOf OcRd 2 w'' O' T.ops := by
 have hf : Fr w w' := Below.trans (h3.call hR.fr) (Below.mono hs.1 (by omega))
 refine ⟨O, oc, rfl, hf, hR.ok, fun w'' hK => hR.lay.done w'' fun b h1 h2 => ?_⟩
 have hz := hs.1.size
 exact (hK b (by omega) (by omega)).trans (hs.2 b (by omega))
set_option maxHeartbeats 25600000 in
set_option maxRecDepth 100000 in
theorem clay_any {w0 w : World} {D : Ds} {v : Array Value} (hD : DescAt w0 D v) (hk : Fr w0 w) (hLD : D.Light) (n : Nat) (hn : n < D.fms.length) (hp : patN D (D.fms[n]).args (D.fms[n]).pcs ≠ 0) :
   Calls Tryz.prog 30 #[.agg v, .int .i64 (n : Int)] w fun e w' => ∃ O oc, e = .returned (.agg (cfV (layCD D (D.fms[n]).args (D.fms[n]).pcs) O (layCD D (D.fms[n]).args (D.fms[n]).pcs).ops.length oc).toArray) ∧ Fr w w' ∧ CfOk (layCD D (D.fms[n]).args (D.fms[n]).pcs) ∧
     ∀ w'' : World, (∀ b, w.heap.size ≤ b → b < w'.heap.size → w''.heap[b]? = w'.heap[b]?) → RowOf OcRd 2 w'' O (layCD D (D.fms[n]).args (D.fms[n]).pcs).ops := by
 have HD := Lib.hid hD
 have HK := Lib.hid hk
 have hop := (pat_sum hp).1
 have HSUM := Lib.hid (pat_sum hp)
 have hLn := hLD _ (List.getElem_mem hn)
 have HSZ := Lib.hid (fun (w1 : World) (k : Fr w w1) => size_any (hD.fr (hk.call k)) hLD n hn)
 obtain ⟨s0, Fa, Ba, Ga, Ca, Ma, Ra, Ua, Xa, Ka, Na, Pa, fc, bc, gc, cc, mc, rc, uc, xc, kc, nl, nc, pc, rfl, h1, h2, h3, h4, h5, h6, h7, h8, h9⟩ := hD
 obtain ⟨bm, om, rfl, f0, f1, A2, k2, A3, k3, A4, k4, c0, c1, u2, v2, c2, r2, u3, v3, c3, r3, u4, v4, c4, r4⟩ := h4.at hn
 rw [Nat.mul_comm 5 n] at c0 c1 c2 c3 c4
 have hni : (n : Int) < (D.fms.length : Int) := by omega
 generalize (D.fms[n]).args = args at *
 generalize (D.fms[n]).pcs = pcs at *
 generalize (D.fms[n]).sem.length = sl at *
 obtain ⟨T, hT⟩ : ∃ T, layCD D args pcs = T := ⟨_, rfl⟩
 rw [hT]
 have HT := Lib.hid hT
 unfold opsB at hop
 rw [Bool.and_eq_true] at hop
 have hall : args.all (clsAtB D) = true := hop.2
 have h6' : args.length ≤ 6 := of_decide_eq_true hop.1
 have HPR := Lib.hid r3
 have HLT := Lib.hid hLn
 have HC := Lib.hid h3
 have HA := Lib.hid r2
 have HALL := Lib.hid hall
 have hpl : pcs.length ≤ 1048576 := hLn.many
 have HF0 := Lib.hid (Fr.alloc (Fr.refl w) (.cells #[.string s0, .int .i64 D.order, .slice Fa D.files.length fc, .slice Ba D.als.length bc, .slice Ga D.nflags gc, .slice Ca D.cls.length cc, .slice (some ⟨bm, om, none⟩) D.fms.length mc, .slice Ra D.rels.length rc, .slice Ua D.uses.length uc, .slice Xa D.rxs.length xc, .slice Ka D.mcs.length kc, .slice Na nl nc, .slice Pa D.regs.length pc] 33))
 have HDV := Lib.hid (BlkAt.alloc (w := w) (t := 33) (cs := #[.string s0, .int .i64 D.order, .slice Fa D.files.length fc, .slice Ba D.als.length bc, .slice Ga D.nflags gc, .slice Ca D.cls.length cc, .slice (some ⟨bm, om, none⟩) D.fms.length mc, .slice Ra D.rels.length rc, .slice Ua D.uses.length uc, .slice Xa D.rxs.length xc, .slice Ka D.mcs.length kc, .slice Na nl nc, .slice Pa D.regs.length pc]))
 have hc2 := hk.get c2
 have hc3 := hk.get c3
 have zc2 := lt_of_cell hc2
 clear h1 h2 h3 h4 h5 h6 h7 h8 h9 hall hT hk hLn hLD hop hp c0 c1 c2 c3 c4 u2 v2 r2 u3 v3 r3 u4 v4 r4
 obtain ⟨sz, hsz⟩ : ∃ sz, patN D args pcs / 8 = sz := ⟨_, rfl⟩
 have HSE := Lib.hid hsz
 rw [hsz] at HSZ
 clear hsz
 go_enter Tryz.func30, Tryz.ntmps30
 go_wp2_with fail
 refine (HSZ.out _ (by exact Fr.alloc (Fr.alloc (Fr.refl _) _) _)).mono ?_
 rintro e w4 ⟨rfl, hf4⟩
 have HF4 := Lib.hid ((HF0.out.call (Fr.alloc (Fr.refl _) _)).call hf4)
 have HDV4 := Lib.hid (BlkAt.fr (BlkAt.fr HDV.out (Fr.alloc (Fr.refl _) _)) hf4)
 have HZV := Lib.hid (show BlkAt w4 (w.heap.size + 1) [.int .i64 0, .int .u64 0, .int .u64 0, .int .u64 0, .int .u64 0, .bool false, .slice none 0 0] from by
   have := BlkAt.fr (BlkAt.alloc (w := w.alloc (.cells #[.string s0, .int .i64 D.order, .slice Fa D.files.length fc, .slice Ba D.als.length bc, .slice Ga D.nflags gc, .slice Ca D.cls.length cc, .slice (some ⟨bm, om, none⟩) D.fms.length mc, .slice Ra D.rels.length rc, .slice Ua D.uses.length uc, .slice Xa D.rxs.length xc, .slice Ka D.mcs.length kc, .slice Na nl nc, .slice Pa D.regs.length pc] 33)) (t := 95) (cs := #[.int .i64 0, .int .u64 0, .int .u64 0, .int .u64 0, .int .u64 0, .bool false, .slice none 0 0])) hf4
   simpa using this)
 have HZF := Lib.hid (show ∀ k, w4.frozen? ⟨w.heap.size + 1, k, none⟩ = false from fun k => (hf4.cells.2.1 _ k (by simp)).trans (World.frozen?_alloc_at _ _ _ _ (by simp)))
 have d6 := HDV4.out 6 _ rfl
 have e2 := HF4.out.get hc2
 have zd := lt_of_cell d6
 have zb4 := lt_of_cell e2
 have hz4 : w.heap.size + 2 ≤ w4.heap.size := by have := hf4.size; simp at this; omega
 have hbl : BlkAt (w4.alloc (.cells #[.int .i64 (sz : Int), .int .u64 0, .int .u64 0, .int .u64 0, .int .u64 0, .bool true, .slice none 0 0] 95)) w4.heap.size [.int .i64 (sz : Int), .int .u64 0, .int .u64 0, .int .u64 0, .int .u64 0, .bool true, .slice none 0 0] := BlkAt.alloc
 have hfz : ∀ k, (w4.alloc (.cells #[.int .i64 (sz : Int), .int .u64 0, .int .u64 0, .int .u64 0, .int .u64 0, .bool true, .slice none 0 0] 95)).frozen? ⟨w4.heap.size, k, none⟩ = false := fun k => World.frozen?_alloc_at _ _ _ _ rfl
 have hf5 : Fr w4 (w4.alloc (.cells #[.int .i64 (sz : Int), .int .u64 0, .int .u64 0, .int .u64 0, .int .u64 0, .bool true, .slice none 0 0] 95)) := Fr.alloc (Fr.refl _) _
 have hs5 : (w4.alloc (.cells #[.int .i64 (sz : Int), .int .u64 0, .int .u64 0, .int .u64 0, .int .u64 0, .bool true, .slice none 0 0] 95)).heap.size = w4.heap.size + 1 := by simp
 have HBL := Lib.hid hbl
 have HFZ := Lib.hid hfz
 have HF5 := Lib.hid hf5
 have HS5 := Lib.hid hs5
 have HE3 := Lib.hid (HF4.out.get hc3)
 clear hf4 HDV HF0 hbl hfz hf5 hs5 hc2 hc3 zc2
 go_wp2_with fail
 generalize World.alloc w4 _ = W5 at *
 obtain ⟨m0, hm0⟩ : ∃ m, w.heap.size = m := ⟨_, rfl⟩
 obtain ⟨lb, hlb0⟩ : ∃ lb, w4.heap.size = lb := ⟨_, rfl⟩
 have HM0 := Lib.hid hm0
 have HLB := Lib.hid hlb0
 rw [hm0] at HDV4 HZV HZF hz4
 rw [hlb0] at HBL HFZ HS5 hz4
 (try simp only [hm0, hlb0])
 clear hm0 hlb0 d6 e2 zd zb4
 go_loopw [23] (fun i wr => RelC1 D args sz w4 lb i wr) (fun i _ => args.length - (intOf i).toNat)
 case atStart =>
   exact ⟨[], none, 0, Nat.zero_le _, rfl, HF5.out, ⟨HBL.out, HFZ.out, World.ownsRow_nil _ _ _ _, by simp, by simp⟩, by rw [HS5.out]; exact Nat.le_refl _, by simp⟩
 case round =>
   obtain ⟨os, O, oc, hj, rfl, hf, hOp, hsz, hX⟩ := hrel
   have HFr := Lib.hid hf
   have HOP := Lib.hid hOp
   have HX := Lib.hid hX
   have HSZ5 := Lib.hid hsz
   have a5 := (HDV4.out.fr hf) 5 _ rfl
   have l6 := hOp.blk 6 _ rfl
   clear hOp hX
   obtain ⟨j, hj0⟩ : ∃ j, os.length = j := ⟨_, rfl⟩
   have HJ := Lib.hid hj0
   rw [hj0] at hj l6
   simp only [hj0]
   clear hj0
   by_cases hlt : j < args.length
   · have hji : (j : Int) < (args.length : Int) := by omega
     have HKW := Lib.hid (HK.out.call (HF4.out.call hf))
     obtain ⟨bk, ok, rfl, hx⟩ := (HA.out.fr fun _ _ _ x => x.fr HKW.out).at hlt
     obtain ⟨c, e, hc, hcl, hbt, hb1, hb64⟩ := args_at HALL.out hlt
     rw [Nat.mul_comm 2 j, e] at hx
     obtain ⟨bq, oq, rfl, hy⟩ := HC.out.at hc
     have HE := Lib.hid (show args[j]? = some (c : Int) by rw [List.getElem?_eq_getElem hlt, e])
     rw [Nat.mul_comm 7 c] at hy
     obtain ⟨an, x0, _, x1⟩ := hx
     generalize D.cls[c] = k at *
     obtain ⟨kind, file, bits, shift, plus, ex⟩ := k
     obtain ⟨n0, E, ec, y0, r1, y1, r2, y2, r3, y3, r4, y4, r5, y5, r6, r7, y6, hex⟩ := hy
     simp only at y3 hb1 hb64 hbt
     obtain ⟨bn, rfl⟩ : ∃ bn : Nat, bits = (bn : Int) := ⟨bits.toNat, by omega⟩
     have HBT := Lib.hid hbt
     clear hbt hcl y0 y1 y2 y4 y5 y6 r1 r2 r3 r4 r5 r6 r7 hex e
     have y3 := HKW.out.get y3
     have zb := lt_of_cell x0
     have zq := lt_of_cell y3
     have zl := lt_of_cell l6
     have za := lt_of_cell a5
     have HF6 := Lib.hid (show Fr wr (wr.alloc (.cells #[.string an, .int .i64 (c : Int)] 55)) from Fr.alloc (Fr.refl wr) _)
     have HK6 := Lib.hid (BlkAt.alloc (w := wr) (t := 55) (cs := #[.string an, .int .i64 (c : Int)]))
     have HZ6 := Lib.hid (show (wr.alloc (.cells #[.string an, .int .i64 (c : Int)] 55)).heap.size = wr.heap.size + 1 by simp)
     have hbn64 : bn ≤ 64 := by omega
     clear hf hj hsz hb1 hb64
     go_wp2
     generalize World.alloc wr _ = W6 at *
     have hj9 := HJ.out
     have hop := HOP.out
     have hs6 := HSZ5.out
     refine clay5 _ _ _ _ _ _ _ _ _ _ _ _ _ _ _ _ _ _ _ _ _ _ _ _ _ _ _ _ _ _ _ _ _ _ _ _ _ _ _ _ _ _ _ _ _ _ _ _ _ _ _ _ _ _ _ _ _ _ _ _ _ _ _ _ _ _ _ _ _ _ _ _ _ lb wr.heap.size m0 bn c bq oq O j oc D.cls.length cc (by omega) hc (HF6.out.get l6) (HK6.out 1 _ rfl) (HF6.out.get a5) (HF6.out.get y3) (lb + 1) (flatC os) ?own (by omega) (by omega) ?base ?frz ?end_
     case own => subst hj9; exact ownsRow_fr hop.row HF6.out
     case base => rw [HZ6.out]; omega
     case frz => exact HF6.out.free l6 (hop.free 6)
     case end_ =>
       intro g cap w' x27 x28 x29 x30 x31 x32 x33 x34 x35 x36 x37 x38 x39 x40 x41 x42 hg
       have HN := Lib.hid (OcsAt.next (od := ⟨(c : Int), bn, W6.heap.size⟩) hop HF6.out rfl rfl (Nat.lt_succ_self lb) hs6 (by subst hj9; exact hg))
       have HG := Lib.hid hg
       have k7 := Lib.hid (HF6.out.call (Fr.drew (Fr.alloc (Fr.alloc (Fr.refl W6) (.cells (madeCells #[.int .i64 0] bn) 3)) (.cells #[.int .i64 (c : Int), .slice (some ⟨W6.heap.size, 0, none⟩) bn bn] 100))))
       have hne : ∀ b, b < lb + 1 → (Value.slice O j oc).ownBlock ≠ some b := fun b hb e => by
         subst hj9
         have := (World.ownsRow.lt hop.row b e).1
         omega
       have HNE := Lib.hid hne
       clear hop hne hs6
       go_wp2
       go_roundw
       case rel =>
         subst hj9
         have hl : (os ++ [(⟨(c : Int), bn, W6.heap.size⟩ : Oc)]).length = os.length + 1 := by simp
         have hlb1 := HLB.out
         refine ⟨os ++ [⟨(c : Int), bn, W6.heap.size⟩], some ⟨g, 0, none⟩, cap, by rw [hl]; omega, by rw [hl]; go_num, ?_, HN.out, ?_, ?_⟩
         · exact Fr.set (Fr.grown (HFr.out.call k7.out) HG.out.2.1 (fun k e => by
             rcases Nat.lt_or_ge k w4.heap.size with h | h
             · exact absurd e (HNE.out k (by omega))
             · exact h)) (by simp only; omega) _
         · have := HG.out.2.1.size
           have := k7.out.size
           have := HSZ5.out
           simp
           omega
         · intro i o hio
           rcases Nat.lt_or_ge i os.length with hi | hi
           · rw [List.getElem?_append_left hi] at hio
             exact HX.out i o hio
           · rw [List.getElem?_append_right hi] at hio
             obtain ⟨hi0, rfl⟩ : i - os.length = 0 ∧ _ = o := by
               match hh : i - os.length, hio with
               | 0, hio => exact ⟨rfl, Option.some.inj hio⟩
             obtain rfl : i = os.length := by omega
             exact ⟨HE.out, HBT.out.symm, hbn64⟩
       case measure => simp [intOf]; omega
   · obtain rfl : j = args.length := by omega
     have HST := Lib.hid (cf0_start (size := sz) HX.out HJ.out)
     have HR0 := Lib.hid (show CfR w4 lb os O oc (cf0 D args sz) wr from ⟨HFr.out, CfAt.start HOP.out (Nat.lt_succ_self lb) ⟨rfl, rfl, rfl, rfl, rfl, rfl⟩ HST.out.1 HST.out.2, cf0_ok D args sz⟩)
     have d6 := HDV4.out.fr hf 6 _ rfl
     have e3 := hf.get HE3.out
     have zd := lt_of_cell d6
     have ze := lt_of_cell e3
     clear hf hj a5 l6 HOP HST HFr
     obtain ⟨bits, hbits⟩ : ∃ bits, patN D args pcs = bits := ⟨_, rfl⟩
     rw [hbits] at HSUM HSE
     have HBI := Lib.hid hbits
     clear hbits
     have hb120 : bits ≤ 120 := HSUM.out.2.2.2.2
     have hb8 : bits = 8 * sz := by have := HSUM.out.2.2.2.1; have := HSE.out; omega
     have HB8 := Lib.hid hb8
     clear hb8
     go_wp2_with fail
     clear d6 e3 zd ze
     go_loopw [51, 8] (fun i nv wr => RelC2 D args pcs bits sz T w4 lb os O oc i nv wr) (fun i _ _ => pcs.length - (intOf i).toNat)
     case atStart =>
       refine ⟨0, 0, cf0 D args sz, Nat.zero_le _, rfl, rfl, HR0.out, rfl, ?_, ?_⟩
       · rw [List.drop_zero, ← HT.out]; unfold layCD; rw [HBI.out, HSE.out]
       · rw [List.drop_zero]; have := HSUM.out.2.1; omega
     case round =>
       obtain ⟨j, m, f, hj, rfl, rfl, hR, hfs, hTT, hS⟩ := hrel
       have HR := Lib.hid hR
       have HFS := Lib.hid hfs
       clear hR hfs
       by_cases hlt : j < pcs.length
       · obtain ⟨bp, op, rfl, hx⟩ := (HPR.out.fr fun _ _ _ x => x.fr (HK.out.call (HF4.out.call HR.out.fr))).at hlt
         rw [Nat.mul_comm 4 j] at hx
         have HDR : pcs.drop j = pcs[j] :: pcs.drop (j + 1) := List.drop_eq_getElem_cons hlt
         rw [HDR] at hTT hS
         have hpn := HSUM.out.2.2.1 _ (List.getElem_mem hlt)
         have hli := HLT.out.lits _ (List.getElem_mem hlt)
         clear HDR
         generalize pcs[j] = p at *
         have HPB := Lib.hid (fun w => cbits_any (D := D) p HALL.out hpn hli w)
         have HPU := Lib.hid (fun (w1 : World) (f : Cf) (b q : Nat) (hl : CfAt lb (lb + 1) w1 O oc os f) (hk : CfOk f) (hb : b < pcN D args p) (hq : q < 128) => cput_any hl hk (fun i o ho => (HX.out i o ho).2) HJ.out HALL.out hb hq hx.1)
         obtain ⟨lit, ar, hi, lo⟩ := p
         obtain ⟨w0', g0, w1', g1, w2', g2, w3', g3⟩ := hx
         simp only at g0 g1 g2 g3 HPB HPU
         have HTT := Lib.hid hTT
         have HSS := Lib.hid hS
         have hji : (j : Int) < (pcs.length : Int) := by omega
         have zp := lt_of_cell g0
         have HBX := Lib.hid (BlkAt.alloc (w := wr) (t := 148) (cs := #[.string lit, .int .i64 ar, .int .i64 hi, .int .i64 lo]))
         have HFX := Lib.hid (Fr.alloc (Fr.refl wr) (.cells #[.string lit, .int .i64 ar, .int .i64 hi, .int .i64 lo] 148))
         have HNE := Lib.hid (fun o ho => Nat.ne_of_lt (HR.out.lay.old o ho).2)
         have HLW := Lib.hid (cfAt_lb HR.out.lay)
         clear hTT hS hj w0' w1' w2' w3' hli
         obtain ⟨N, hN⟩ : ∃ N, pcN D args ⟨lit, ar, hi, lo⟩ = N := ⟨_, rfl⟩
         have HN := Lib.hid hN
         rw [hN] at HPB HPU hpn
         clear hN
         have hNb : N ≤ 120 := by
           have := HSS.out
           simp only [sumN, List.map_cons, List.sum_cons] at this
           have := HN.out
           omega
         have hmb : m ≤ 120 := by have := HSS.out; omega
         have HT5 := Lib.hid (show layC D.order bits (wP ⟨lit, ar, hi, lo⟩ N ++ wL D args (pcs.drop (j + 1))) m f = T by rw [← HN.out]; exact HTT.out)
         have HS5b := Lib.hid (show m + N + sumN D args (pcs.drop (j + 1)) = bits by
           have := HSS.out
           simp only [sumN, List.map_cons, List.sum_cons] at this ⊢
           have := HN.out
           omega)
         clear HTT HSS
         go_wp2_with fail
         refine (HPB.out _).mono ?_
         rintro e w5 ⟨rfl, hf5⟩
         have HR5 := Lib.hid (HR.out.frame (HFX.out.call hf5))
         have HB5 := Lib.hid (HBX.out.fr hf5)
         have HZ5 := Lib.hid (show wr.heap.size < w5.heap.size by have := hf5.size; simp at this; omega)
         clear hf5 g0 g1 g2 g3 zp HBX HFX HPB
         go_wp2_with fail
         generalize wr.heap.size = pb at *
         go_loopw [57, 8] (fun bv nv w' => RelC3 D args pcs bits sz T w4 lb os O oc j N ⟨lit, ar, hi, lo⟩ pb [.string lit, .int .i64 ar, .int .i64 hi, .int .i64 lo] bv nv w') (fun b _ _ => N - (intOf b).toNat)
         case atStart => exact ⟨0, m, f, rfl, rfl, Nat.zero_le _, HR5.out, HFS.out, HT5.out, HS5b.out, HB5.out⟩
         case round =>
           obtain ⟨b, m', f', rfl, rfl, hc, hR', hfs', hT', hS', hB'⟩ := hrel
           have HR7 := Lib.hid hR'
           have HFS7 := Lib.hid hfs'
           have HT7 := Lib.hid hT'
           have HS7 := Lib.hid hS'
           have HB7 := Lib.hid hB'
           clear hR' hT' hS' hB' hfs'
           by_cases hbN : b < N
           · have hbi : (b : Int) < (N : Int) := by omega
             have hb0 : (0 : Int) ≤ (b : Int) := by omega
             have hb120' : b ≤ 120 := by omega
             have hm7 : m' < bits := by have := HS7.out; omega
             have hq7 : plcN D.order m' bits < 128 := Nat.lt_trans (plcN_lt hm7 hb120 HSUM.out.2.2.2.1) (by decide)
             have HPL := Lib.hid (show ∀ w : World, Calls Tryz.prog 60 #[.int .i64 D.order, .int .i64 (m' : Int), .int .i64 (8 * (sz : Int))] w fun e w' => e = .returned (.int .i64 (plcN D.order m' bits : Int)) ∧ w = w' from fun w => by
               have h := cplace_any D.order m' bits (by omega) (by omega) w
               rw [plcN_I hm7, show ((bits : Nat) : Int) = 8 * (sz : Int) by have := HB8.out; omega] at h
               exact h)
             have HP7 := Lib.hid (fun w1 (k : CfAt lb (lb + 1) w1 O oc os f') => HPU.out w1 f' b (plcN D.order m' bits) k HR7.out.ok hbN hq7)
             have HT8 := Lib.hid (show layC D.order bits (wP ⟨lit, ar, hi, lo⟩ (N - (b + 1)) ++ wL D args (pcs.drop (j + 1))) (m' + 1) (putC (wbit ⟨lit, ar, hi, lo⟩ (N - 1 - b)) (plcN D.order m' bits) f') = T by
               have := HT7.out
               rw [show N - b = (N - 1 - b) + 1 by omega] at this
               rw [show N - (b + 1) = N - 1 - b by omega]
               exact this)
             have d1 := HDV4.out.fr HR7.out.fr 1 _ rfl
             have s0' := HR7.out.lay.blk 0 _ rfl
             have b0 := HB7.out 0 _ rfl
             have b1 := HB7.out 1 _ rfl
             have b2 := HB7.out 2 _ rfl
             have b3 := HB7.out 3 _ rfl
             rw [HFS7.out] at s0'
             have zd := lt_of_cell d1
             have zb := lt_of_cell b0
             have zs := lt_of_cell s0'
             have HD1 := Lib.hid d1
             have HS1 := Lib.hid s0'
             have HQ7 := Lib.hid hq7
             have hszb : sz ≤ 15 := by have := HB8.out; omega
             have hw8 : IntKind.i64.wrap (8 * (sz : Int)) = 8 * (sz : Int) := by simp [IntKind.wrap, IntKind.bits, IntKind.signed]; omega
             clear hq7
             generalize hq : plcN D.order m' bits = q at *
             have HQ := Lib.hid hq
             clear hq
             go_wp2_with fail
             go_region_held3 (fun wx => (wx.cell? ⟨pb, 0, none⟩ = some (.string lit) ∧ wx.cell? ⟨pb, 1, none⟩ = some (.int .i64 ar) ∧ wx.cell? ⟨pb, 2, none⟩ = some (.int .i64 hi) ∧ wx.cell? ⟨pb, 3, none⟩ = some (.int .i64 lo)) ∧ wx.cell? ⟨m0, 1, none⟩ = some (.int .i64 D.order) ∧ wx.cell? ⟨lb, 0, none⟩ = some (.int .i64 (sz : Int))) (first
               | exact l14_keep HB7.out HD1.out HS1.out
               | exact l14_keep (HB7.out.fr (Fr.drew (Fr.refl _))) ((Fr.drew (Fr.refl _)).get HD1.out) ((Fr.drew (Fr.refl _)).get HS1.out)
               | exact l14_keep HB8w.out HD8.out HS8.out) (first
               | (go_at_call 60; refine (HPL.out _).mono ?_; rintro e w8 ⟨rfl, rfl⟩)
               | (go_at_call 59; refine (HP7.out _ (by first | exact HR7.out.lay | exact HR7.out.lay.fr (Fr.drew (Fr.refl _)))).mono ?_; rintro e w8 ⟨rfl, hb8, hl8, hk8⟩; have HB8w := Lib.hid (l15_box HB7.out (by first | exact hk8 pb (by simpa using zb) (Nat.ne_of_gt HLW.out) HNE.out) rfl); have HD8 := Lib.hid (l15_cell HD1.out (hb8.block m0 (by omega)) rfl); have HR8 := Lib.hid (HR7.out.to HLB.out (Below.trans (by first | exact Below.drew (Below.refl _ _) | exact Below.refl _ _) hb8) hl8 (putC_ok HR7.out.ok _ _)); have HS8 := Lib.hid (show w8.cell? ⟨lb, 0, none⟩ = some (.int .i64 (sz : Int)) by (have h9 := hl8.blk 0 _ rfl; rw [putC_size, HFS7.out] at h9; exact h9)); clear hb8 hl8 hk8))
             go_wp2
             go_roundw
             case rel => exact ⟨b + 1, m' + 1, _, by go_num, by go_num, by omega, HR8.out, by rw [putC_size]; exact HFS7.out, HT8.out, by have := HS7.out; omega, HB8w.out⟩
             case measure => simp [intOf]; omega
           · obtain rfl : b = N := by omega
             go_wp2
             go_roundw
             case rel => exact ⟨j + 1, m', f', by omega, by go_num, rfl, HR7.out, HFS7.out, by have := HT7.out; rw [Nat.sub_self] at this; exact this, by have := HS7.out; omega⟩
             case measure => simp [intOf]; omega
       · obtain rfl : j = pcs.length := by omega
         rw [List.drop_length] at hTT
         obtain rfl : f = T := hTT
         have c0 := HR.out.lay.blk 0 _ rfl; have c1 := HR.out.lay.blk 1 _ rfl; have c2 := HR.out.lay.blk 2 _ rfl; have c3 := HR.out.lay.blk 3 _ rfl; have c4 := HR.out.lay.blk 4 _ rfl; have c5 := HR.out.lay.blk 5 _ rfl; have c6 := HR.out.lay.blk 6 _ rfl
         have z0 := HZV.out.fr HR.out.fr 0 _ rfl; have z1 := HZV.out.fr HR.out.fr 1 _ rfl; have z2 := HZV.out.fr HR.out.fr 2 _ rfl; have z3 := HZV.out.fr HR.out.fr 3 _ rfl; have z4 := HZV.out.fr HR.out.fr 4 _ rfl; have z5 := HZV.out.fr HR.out.fr 5 _ rfl; have z6 := HZV.out.fr HR.out.fr 6 _ rfl
         have y0 := HR.out.fr.free (HZV.out 0 _ rfl) (HZF.out 0); have y1 := HR.out.fr.free (HZV.out 1 _ rfl) (HZF.out 1); have y2 := HR.out.fr.free (HZV.out 2 _ rfl) (HZF.out 2); have y3 := HR.out.fr.free (HZV.out 3 _ rfl) (HZF.out 3); have y4 := HR.out.fr.free (HZV.out 4 _ rfl) (HZF.out 4); have y5 := HR.out.fr.free (HZV.out 5 _ rfl) (HZF.out 5); have y6 := HR.out.fr.free (HZV.out 6 _ rfl) (HZF.out 6)
         have zc := lt_of_cell c0
         have zz := lt_of_cell z0
         have hol : os.length = f.ops.length := HR.out.lay.len.symm
         rw [hol] at c6
         clear hol hS hj HT HSUM
         go_wp2
         exact bodyPost_ret (v := .agg (cfV f O f.ops.length oc).toArray) (by simp [results, Tryz.results30, go_sem, cfV, *]) rfl (clay_end HR.out HF4.out HM0.out hz4 (set7L _ (m0 + 1) _ _ _ _ _ _ _))
theorem cformPlace_any (x : Int) (A : Option Addr) (n c : Nat) (w : World) : Calls Tryz.prog 31 #[.int .i64 x, .slice A n c] w fun e w' => e = .returned (.bool (plB x n)) ∧ w' = w := by
 go_enter Tryz.func31, Tryz.ntmps31
 go_wp2
 all_goals (go_ret; exact ⟨bool_iff (by simp [plB]; omega), rfl⟩)
theorem cclassPlace_any (x : Int) (A : Option Addr) (n c : Nat) (w : World) : Calls Tryz.prog 35 #[.int .i64 x, .slice A n c] w fun e w' => e = .returned (.bool (plB x n)) ∧ w' = w := by
 go_enter Tryz.func35, Tryz.ntmps35
 go_wp2
 all_goals (go_ret; exact ⟨bool_iff (by simp [plB]; omega), rfl⟩)
def NewInts (B : Nat) (w : World) (v : Value) (l : List Int) : Prop := ∃ A c, v = .slice A l.length c ∧ ∀ w'' : World, (∀ b, B ≤ b → b < w.heap.size → w''.heap[b]? = w.heap[b]?) → RowOf IntC 1 w'' A l
theorem newInts_of {B : Nat} {w : World} {v : Value} {l : List Int} (h : w.ownsRow B 3 1 v l.length (l.map (Value.int .i64))) : NewInts B w v l := by
 rcases h.2 with ⟨rfl, hn⟩ | ⟨g, cap, cur, rfl, hb, hg, hc, hm, hs, ht⟩
 · exact ⟨none, 0, by rw [hn], fun w'' _ h0 => absurd h0 (by omega)⟩
 · refine ⟨some ⟨g, 0, none⟩, cap, rfl, fun w'' hk _ => ⟨g, 0, rfl, fun i hi => ?_⟩⟩
   have hlt : g < w.heap.size := (Array.getElem?_eq_some_iff.1 hg).1
   have hg' := (hk g hb hlt).trans hg
   have h1 : (cur.toList.take (l.length * 1))[i]? = some (Value.int .i64 l[i]) := by rw [ht]; simp [hi]
   rw [List.getElem?_take_of_lt (by omega)] at h1
   unfold IntC
   simp [World.cell?, hg']
   simpa using h1
theorem cloneI_any {w : World} {A : Option Addr} {l : List Int} (c : Nat) (h : RowOf IntAt 1 w A l) (hm : l.length ≤ 1048576) :
   Calls Tryz.prog 57 #[.slice A l.length c] w fun e w' => ∃ v, e = .returned v ∧ NewInts w.heap.size w' v l ∧ Fr w w' := by
 by_cases h0 : 0 < l.length
 · obtain ⟨b, o, rfl, hx⟩ := h h0
   refine (Tryz.slices_Clone_int b o l.length c l w (Nat.le_refl _) (by omega) (fun j hj => by
     have := (hx j hj).2
     rw [Nat.one_mul] at this
     rw [this, List.getD_eq_getElem?_getD, List.getElem?_eq_getElem hj]; rfl)).mono ?_
   rintro e w' ⟨v, rfl, ho, _, hf⟩
   rw [List.take_length] at ho
   exact ⟨v, rfl, newInts_of ho, hf⟩
 · obtain rfl : l = [] := List.eq_nil_of_length_eq_zero (by omega)
   match A with
   | none =>
     refine (Tryz.slices_Clone_int_nil 0 c w).mono ?_
     rintro e w' ⟨rfl, rfl⟩
     exact ⟨_, rfl, ⟨none, 0, rfl, fun w'' _ h0 => absurd h0 (by simp)⟩, Fr.refl _⟩
   | some a =>
     refine (Tryz.slices_Clone_int_zero a c w).mono ?_
     rintro e w' ⟨v, rfl, ho, _, hf⟩
     exact ⟨v, rfl, newInts_of (l := []) ho, hf⟩
theorem classOf_end {w W W' w8 w' : World} {n c8 : Nat} {s : Bool} {bits shift plus : Int} {ex : List Int} {A8 : Option Addr} (hn : w.heap.size = n) (hW : W.heap.size = n + 2) (hF : Fr w W) (h8 : Fr W w8) (hs : Below (n + 1) w8 w' ∧ ∀ c, c ≠ n + 1 → w'.heap[c]? = w8.heap[c]?)
   (hv : ∀ w'' : World, (∀ b, W'.heap.size ≤ b → b < w8.heap.size → w''.heap[b]? = w8.heap[b]?) → RowOf IntC 1 w'' A8 ex) (hW' : W'.heap.size = n + 2) :
   ∃ v, (Ending.returned (.agg #[.bool s, .int .i64 bits, .int .i64 shift, .int .i64 plus, .slice A8 ex.length c8])) = .returned (.agg #[.bool s, .int .i64 bits, .int .i64 shift, .int .i64 plus, v]) ∧ Fr w w' ∧ NewInts w.heap.size w' v ex := by
 have hz := hs.1.size
 refine ⟨_, rfl, Below.trans (hF.call h8) (Below.mono hs.1 (by omega)), A8, c8, rfl, fun w'' hk => hv w'' fun b h1 h2 => ?_⟩
 exact (hk b (by omega) (by omega)).trans (hs.2 b (by omega))
set_option maxHeartbeats 6400000 in
set_option maxRecDepth 100000 in
theorem classOf_reg {w : World} (n0 : ByteArray) (kind file bits shift plus : Int) (E : Option Addr) (ex : List Int) (ec : Nat)  (hE : RowOf IntAt 1 w E ex) (hm : ex.length ≤ 1048576) :
   Calls Tryz.prog 29 #[.agg #[.string n0, .int .i64 1, .int .i64 file, .int .i64 bits, .int .i64 shift, .int .i64 plus, .slice E ex.length ec]] w fun e w' => ∃ v, e = .returned (.agg #[.bool false, .int .i64 bits, .int .i64 shift, .int .i64 plus, v]) ∧ Fr w w' ∧ NewInts w.heap.size w' v ex := by
 have HCL := Lib.hid (fun (w1 : World) (k : Fr w w1) => cloneI_any ec (hE.fr fun _ _ _ x => ⟨x.1, k.get x.2⟩) hm)
 have HF := Lib.hid (show Fr w ((w.alloc (.cells #[.string n0, .int .i64 1, .int .i64 file, .int .i64 bits, .int .i64 shift, .int .i64 plus, .slice E ex.length ec] 64)).alloc (.cells #[.bool false, .int .i64 0, .int .i64 0, .int .i64 0, .slice none 0 0] 89)) from Fr.alloc (Fr.alloc (Fr.refl w) _) _)
 have HB := Lib.hid (BlkAt.fr (BlkAt.alloc (w := w) (t := 64) (cs := #[.string n0, .int .i64 1, .int .i64 file, .int .i64 bits, .int .i64 shift, .int .i64 plus, .slice E ex.length ec])) (Fr.alloc (Fr.refl _) (.cells #[.bool false, .int .i64 0, .int .i64 0, .int .i64 0, .slice none 0 0] 89)))
 have HZ := Lib.hid (show BlkAt ((w.alloc (.cells #[.string n0, .int .i64 1, .int .i64 file, .int .i64 bits, .int .i64 shift, .int .i64 plus, .slice E ex.length ec] 64)).alloc (.cells #[.bool false, .int .i64 0, .int .i64 0, .int .i64 0, .slice none 0 0] 89)) (w.heap.size + 1) [.bool false, .int .i64 0, .int .i64 0, .int .i64 0, .slice none 0 0] from by
   have := BlkAt.alloc (w := w.alloc (.cells #[.string n0, .int .i64 1, .int .i64 file, .int .i64 bits, .int .i64 shift, .int .i64 plus, .slice E ex.length ec] 64)) (t := 89) (cs := #[.bool false, .int .i64 0, .int .i64 0, .int .i64 0, .slice none 0 0])
   simpa using this)
 have HY := Lib.hid (show ∀ k, ((w.alloc (.cells #[.string n0, .int .i64 1, .int .i64 file, .int .i64 bits, .int .i64 shift, .int .i64 plus, .slice E ex.length ec] 64)).alloc (.cells #[.bool false, .int .i64 0, .int .i64 0, .int .i64 0, .slice none 0 0] 89)).frozen? ⟨w.heap.size + 1, k, none⟩ = false from fun k => World.frozen?_alloc_at _ _ _ _ (by simp))
 have HS := Lib.hid (show ((w.alloc (.cells #[.string n0, .int .i64 1, .int .i64 file, .int .i64 bits, .int .i64 shift, .int .i64 plus, .slice E ex.length ec] 64)).alloc (.cells #[.bool false, .int .i64 0, .int .i64 0, .int .i64 0, .slice none 0 0] 89)).heap.size = w.heap.size + 2 by simp)
 clear hE hm
 go_enter Tryz.func29, Tryz.ntmps29
 go_wp2_with fail
 generalize World.alloc (World.alloc w _) _ = W at *
 obtain ⟨n, hn⟩ : ∃ n, w.heap.size = n := ⟨_, rfl⟩
 have HN := Lib.hid hn
 rw [hn] at HB HZ HY HS ⊢
 (try simp only [hn])
 clear hn
 have b3 := HB.out 3 _ rfl
 have b4 := HB.out 4 _ rfl
 have b5 := HB.out 5 _ rfl
 have b6 := HB.out 6 _ rfl
 have z0 := HZ.out 0 _ rfl; have z1 := HZ.out 1 _ rfl; have z2 := HZ.out 2 _ rfl; have z3 := HZ.out 3 _ rfl; have z4 := HZ.out 4 _ rfl
 have y0 := HY.out 0; have y1 := HY.out 1; have y2 := HY.out 2; have y3 := HY.out 3; have y4 := HY.out 4
 have zb := lt_of_cell b3
 have zz := lt_of_cell z0
 have HF2 := Lib.hid (show ∀ w8, Fr W w8 → (w8.cell? ⟨n, 3, none⟩ = some (.int .i64 bits) ∧ w8.cell? ⟨n, 4, none⟩ = some (.int .i64 shift) ∧ w8.cell? ⟨n, 5, none⟩ = some (.int .i64 plus) ∧ w8.cell? ⟨n, 6, none⟩ = some (.slice E ex.length ec)) from fun w8 k => ⟨k.get b3, k.get b4, k.get b5, k.get b6⟩)
 go_region_held3 (fun wx => wx.cell? ⟨n, 3, none⟩ = some (.int .i64 bits) ∧ wx.cell? ⟨n, 4, none⟩ = some (.int .i64 shift) ∧ wx.cell? ⟨n, 5, none⟩ = some (.int .i64 plus) ∧ wx.cell? ⟨n, 6, none⟩ = some (.slice E ex.length ec)) (first
   | exact HF2.out _ (Fr.refl _)
   | exact HF2.out _ (Fr.drew (Fr.refl _))
   | exact HF2.out _ HF8.out
   | exact HF2.out _ (Fr.drew HF8.out)
   | (have h9 := HF2.out _ HF8.out; simp [go_sem, h9])) (first | (go_at_call 57; refine (HCL.out _ (by first | exact HF.out | exact Fr.drew HF.out)).mono ?_; rintro e w8 ⟨_, rfl, ⟨A8, c8, rfl, hv⟩, hf8⟩; have HF8 := Lib.hid (show Fr W w8 by first | exact hf8 | exact Fr.call (Fr.drew (Fr.refl _)) hf8); have HV := Lib.hid hv; have z0 := HF8.out.get z0; have z1 := HF8.out.get z1; have z2 := HF8.out.get z2; have z3 := HF8.out.get z3; have z4 := HF8.out.get z4; have y0 := HF8.out.free (HZ.out 0 _ rfl) y0; have y1 := HF8.out.free (HZ.out 1 _ rfl) y1; have y2 := HF8.out.free (HZ.out 2 _ rfl) y2; have y3 := HF8.out.free (HZ.out 3 _ rfl) y3; have y4 := HF8.out.free (HZ.out 4 _ rfl) y4; have zz := lt_of_cell z0; clear hv hf8))
 go_wp2
 exact bodyPost_ret (v := .agg #[.bool false, .int .i64 bits, .int .i64 shift, .int .i64 plus, .slice A8 ex.length c8]) (by simp [results, Tryz.results29, go_sem, *]) rfl (classOf_end HN.out HS.out HF.out HF8.out (set5L _ (n + 1) _ _ _ _ _) HV.out (by first | exact HS.out | simpa using HS.out))
set_option maxHeartbeats 6400000 in
set_option maxRecDepth 100000 in
theorem classOf_uns {w : World} (n0 : ByteArray) (kind file bits shift plus : Int) (E : Option Addr) (ex : List Int) (ec : Nat)  (hE : RowOf IntAt 1 w E ex) (hm : ex.length ≤ 1048576) :
   Calls Tryz.prog 29 #[.agg #[.string n0, .int .i64 2, .int .i64 file, .int .i64 bits, .int .i64 shift, .int .i64 plus, .slice E ex.length ec]] w fun e w' => ∃ v, e = .returned (.agg #[.bool false, .int .i64 bits, .int .i64 shift, .int .i64 plus, v]) ∧ Fr w w' ∧ NewInts w.heap.size w' v ex := by
 have HCL := Lib.hid (fun (w1 : World) (k : Fr w w1) => cloneI_any ec (hE.fr fun _ _ _ x => ⟨x.1, k.get x.2⟩) hm)
 have HF := Lib.hid (show Fr w ((w.alloc (.cells #[.string n0, .int .i64 2, .int .i64 file, .int .i64 bits, .int .i64 shift, .int .i64 plus, .slice E ex.length ec] 64)).alloc (.cells #[.bool false, .int .i64 0, .int .i64 0, .int .i64 0, .slice none 0 0] 89)) from Fr.alloc (Fr.alloc (Fr.refl w) _) _)
 have HB := Lib.hid (BlkAt.fr (BlkAt.alloc (w := w) (t := 64) (cs := #[.string n0, .int .i64 2, .int .i64 file, .int .i64 bits, .int .i64 shift, .int .i64 plus, .slice E ex.length ec])) (Fr.alloc (Fr.refl _) (.cells #[.bool false, .int .i64 0, .int .i64 0, .int .i64 0, .slice none 0 0] 89)))
 have HZ := Lib.hid (show BlkAt ((w.alloc (.cells #[.string n0, .int .i64 2, .int .i64 file, .int .i64 bits, .int .i64 shift, .int .i64 plus, .slice E ex.length ec] 64)).alloc (.cells #[.bool false, .int .i64 0, .int .i64 0, .int .i64 0, .slice none 0 0] 89)) (w.heap.size + 1) [.bool false, .int .i64 0, .int .i64 0, .int .i64 0, .slice none 0 0] from by
   have := BlkAt.alloc (w := w.alloc (.cells #[.string n0, .int .i64 2, .int .i64 file, .int .i64 bits, .int .i64 shift, .int .i64 plus, .slice E ex.length ec] 64)) (t := 89) (cs := #[.bool false, .int .i64 0, .int .i64 0, .int .i64 0, .slice none 0 0])
   simpa using this)
 have HY := Lib.hid (show ∀ k, ((w.alloc (.cells #[.string n0, .int .i64 2, .int .i64 file, .int .i64 bits, .int .i64 shift, .int .i64 plus, .slice E ex.length ec] 64)).alloc (.cells #[.bool false, .int .i64 0, .int .i64 0, .int .i64 0, .slice none 0 0] 89)).frozen? ⟨w.heap.size + 1, k, none⟩ = false from fun k => World.frozen?_alloc_at _ _ _ _ (by simp))
 have HS := Lib.hid (show ((w.alloc (.cells #[.string n0, .int .i64 2, .int .i64 file, .int .i64 bits, .int .i64 shift, .int .i64 plus, .slice E ex.length ec] 64)).alloc (.cells #[.bool false, .int .i64 0, .int .i64 0, .int .i64 0, .slice none 0 0] 89)).heap.size = w.heap.size + 2 by simp)
 clear hE hm
 go_enter Tryz.func29, Tryz.ntmps29
 go_wp2_with fail
 generalize World.alloc (World.alloc w _) _ = W at *
 obtain ⟨n, hn⟩ : ∃ n, w.heap.size = n := ⟨_, rfl⟩
 have HN := Lib.hid hn
 rw [hn] at HB HZ HY HS ⊢
 (try simp only [hn])
 clear hn
 have b3 := HB.out 3 _ rfl
 have b4 := HB.out 4 _ rfl
 have b5 := HB.out 5 _ rfl
 have b6 := HB.out 6 _ rfl
 have z0 := HZ.out 0 _ rfl; have z1 := HZ.out 1 _ rfl; have z2 := HZ.out 2 _ rfl; have z3 := HZ.out 3 _ rfl; have z4 := HZ.out 4 _ rfl
 have y0 := HY.out 0; have y1 := HY.out 1; have y2 := HY.out 2; have y3 := HY.out 3; have y4 := HY.out 4
 have zb := lt_of_cell b3
 have zz := lt_of_cell z0
 have HF2 := Lib.hid (show ∀ w8, Fr W w8 → (w8.cell? ⟨n, 3, none⟩ = some (.int .i64 bits) ∧ w8.cell? ⟨n, 4, none⟩ = some (.int .i64 shift) ∧ w8.cell? ⟨n, 5, none⟩ = some (.int .i64 plus) ∧ w8.cell? ⟨n, 6, none⟩ = some (.slice E ex.length ec)) from fun w8 k => ⟨k.get b3, k.get b4, k.get b5, k.get b6⟩)
 go_region_held3 (fun wx => wx.cell? ⟨n, 3, none⟩ = some (.int .i64 bits) ∧ wx.cell? ⟨n, 4, none⟩ = some (.int .i64 shift) ∧ wx.cell? ⟨n, 5, none⟩ = some (.int .i64 plus) ∧ wx.cell? ⟨n, 6, none⟩ = some (.slice E ex.length ec)) (first
   | exact HF2.out _ (Fr.refl _)
   | exact HF2.out _ (Fr.drew (Fr.refl _))
   | exact HF2.out _ HF8.out
   | exact HF2.out _ (Fr.drew HF8.out)
   | (have h9 := HF2.out _ HF8.out; simp [go_sem, h9])) (first | (go_at_call 57; refine (HCL.out _ (by first | exact HF.out | exact Fr.drew HF.out)).mono ?_; rintro e w8 ⟨_, rfl, ⟨A8, c8, rfl, hv⟩, hf8⟩; have HF8 := Lib.hid (show Fr W w8 by first | exact hf8 | exact Fr.call (Fr.drew (Fr.refl _)) hf8); have HV := Lib.hid hv; have z0 := HF8.out.get z0; have z1 := HF8.out.get z1; have z2 := HF8.out.get z2; have z3 := HF8.out.get z3; have z4 := HF8.out.get z4; have y0 := HF8.out.free (HZ.out 0 _ rfl) y0; have y1 := HF8.out.free (HZ.out 1 _ rfl) y1; have y2 := HF8.out.free (HZ.out 2 _ rfl) y2; have y3 := HF8.out.free (HZ.out 3 _ rfl) y3; have y4 := HF8.out.free (HZ.out 4 _ rfl) y4; have zz := lt_of_cell z0; clear hv hf8))
 go_wp2
 exact bodyPost_ret (v := .agg #[.bool false, .int .i64 bits, .int .i64 shift, .int .i64 plus, .slice A8 ex.length c8]) (by simp [results, Tryz.results29, go_sem, *]) rfl (classOf_end HN.out HS.out HF.out HF8.out (set5L _ (n + 1) _ _ _ _ _) HV.out (by first | exact HS.out | simpa using HS.out))
set_option maxHeartbeats 6400000 in
set_option maxRecDepth 100000 in
theorem classOf_sgn {w : World} (n0 : ByteArray) (kind file bits shift plus : Int) (E : Option Addr) (ex : List Int) (ec : Nat) (hk1 : (kind != 1) = true) (hk2 : (kind != 2) = true) (hE : RowOf IntAt 1 w E ex) (hm : ex.length ≤ 1048576) :
   Calls Tryz.prog 29 #[.agg #[.string n0, .int .i64 kind, .int .i64 file, .int .i64 bits, .int .i64 shift, .int .i64 plus, .slice E ex.length ec]] w fun e w' => ∃ v, e = .returned (.agg #[.bool true, .int .i64 bits, .int .i64 shift, .int .i64 plus, v]) ∧ Fr w w' ∧ NewInts w.heap.size w' v ex := by
 have HCL := Lib.hid (fun (w1 : World) (k : Fr w w1) => cloneI_any ec (hE.fr fun _ _ _ x => ⟨x.1, k.get x.2⟩) hm)
 have HF := Lib.hid (show Fr w ((w.alloc (.cells #[.string n0, .int .i64 kind, .int .i64 file, .int .i64 bits, .int .i64 shift, .int .i64 plus, .slice E ex.length ec] 64)).alloc (.cells #[.bool false, .int .i64 0, .int .i64 0, .int .i64 0, .slice none 0 0] 89)) from Fr.alloc (Fr.alloc (Fr.refl w) _) _)
 have HB := Lib.hid (BlkAt.fr (BlkAt.alloc (w := w) (t := 64) (cs := #[.string n0, .int .i64 kind, .int .i64 file, .int .i64 bits, .int .i64 shift, .int .i64 plus, .slice E ex.length ec])) (Fr.alloc (Fr.refl _) (.cells #[.bool false, .int .i64 0, .int .i64 0, .int .i64 0, .slice none 0 0] 89)))
 have HZ := Lib.hid (show BlkAt ((w.alloc (.cells #[.string n0, .int .i64 kind, .int .i64 file, .int .i64 bits, .int .i64 shift, .int .i64 plus, .slice E ex.length ec] 64)).alloc (.cells #[.bool false, .int .i64 0, .int .i64 0, .int .i64 0, .slice none 0 0] 89)) (w.heap.size + 1) [.bool false, .int .i64 0, .int .i64 0, .int .i64 0, .slice none 0 0] from by
   have := BlkAt.alloc (w := w.alloc (.cells #[.string n0, .int .i64 kind, .int .i64 file, .int .i64 bits, .int .i64 shift, .int .i64 plus, .slice E ex.length ec] 64)) (t := 89) (cs := #[.bool false, .int .i64 0, .int .i64 0, .int .i64 0, .slice none 0 0])
   simpa using this)
 have HY := Lib.hid (show ∀ k, ((w.alloc (.cells #[.string n0, .int .i64 kind, .int .i64 file, .int .i64 bits, .int .i64 shift, .int .i64 plus, .slice E ex.length ec] 64)).alloc (.cells #[.bool false, .int .i64 0, .int .i64 0, .int .i64 0, .slice none 0 0] 89)).frozen? ⟨w.heap.size + 1, k, none⟩ = false from fun k => World.frozen?_alloc_at _ _ _ _ (by simp))
 have HS := Lib.hid (show ((w.alloc (.cells #[.string n0, .int .i64 kind, .int .i64 file, .int .i64 bits, .int .i64 shift, .int .i64 plus, .slice E ex.length ec] 64)).alloc (.cells #[.bool false, .int .i64 0, .int .i64 0, .int .i64 0, .slice none 0 0] 89)).heap.size = w.heap.size + 2 by simp)
 clear hE hm
 go_enter Tryz.func29, Tryz.ntmps29
 go_wp2_with fail
 generalize World.alloc (World.alloc w _) _ = W at *
 obtain ⟨n, hn⟩ : ∃ n, w.heap.size = n := ⟨_, rfl⟩
 have HN := Lib.hid hn
 rw [hn] at HB HZ HY HS ⊢
 (try simp only [hn])
 clear hn
 have b3 := HB.out 3 _ rfl
 have b4 := HB.out 4 _ rfl
 have b5 := HB.out 5 _ rfl
 have b6 := HB.out 6 _ rfl
 have z0 := HZ.out 0 _ rfl; have z1 := HZ.out 1 _ rfl; have z2 := HZ.out 2 _ rfl; have z3 := HZ.out 3 _ rfl; have z4 := HZ.out 4 _ rfl
 have y0 := HY.out 0; have y1 := HY.out 1; have y2 := HY.out 2; have y3 := HY.out 3; have y4 := HY.out 4
 have zb := lt_of_cell b3
 have zz := lt_of_cell z0
 have HF2 := Lib.hid (show ∀ w8, Fr W w8 → (w8.cell? ⟨n, 3, none⟩ = some (.int .i64 bits) ∧ w8.cell? ⟨n, 4, none⟩ = some (.int .i64 shift) ∧ w8.cell? ⟨n, 5, none⟩ = some (.int .i64 plus) ∧ w8.cell? ⟨n, 6, none⟩ = some (.slice E ex.length ec)) from fun w8 k => ⟨k.get b3, k.get b4, k.get b5, k.get b6⟩)
 go_region_held3 (fun wx => wx.cell? ⟨n, 3, none⟩ = some (.int .i64 bits) ∧ wx.cell? ⟨n, 4, none⟩ = some (.int .i64 shift) ∧ wx.cell? ⟨n, 5, none⟩ = some (.int .i64 plus) ∧ wx.cell? ⟨n, 6, none⟩ = some (.slice E ex.length ec)) (first
   | exact HF2.out _ (Fr.refl _)
   | exact HF2.out _ (Fr.drew (Fr.refl _))
   | exact HF2.out _ HF8.out
   | exact HF2.out _ (Fr.drew HF8.out)
   | (have h9 := HF2.out _ HF8.out; simp [go_sem, h9])) (first | (go_at_call 57; refine (HCL.out _ (by first | exact HF.out | exact Fr.drew HF.out)).mono ?_; rintro e w8 ⟨_, rfl, ⟨A8, c8, rfl, hv⟩, hf8⟩; have HF8 := Lib.hid (show Fr W w8 by first | exact hf8 | exact Fr.call (Fr.drew (Fr.refl _)) hf8); have HV := Lib.hid hv; have z0 := HF8.out.get z0; have z1 := HF8.out.get z1; have z2 := HF8.out.get z2; have z3 := HF8.out.get z3; have z4 := HF8.out.get z4; have y0 := HF8.out.free (HZ.out 0 _ rfl) y0; have y1 := HF8.out.free (HZ.out 1 _ rfl) y1; have y2 := HF8.out.free (HZ.out 2 _ rfl) y2; have y3 := HF8.out.free (HZ.out 3 _ rfl) y3; have y4 := HF8.out.free (HZ.out 4 _ rfl) y4; have zz := lt_of_cell z0; clear hv hf8))
 go_wp2
 exact bodyPost_ret (v := .agg #[.bool true, .int .i64 bits, .int .i64 shift, .int .i64 plus, .slice A8 ex.length c8]) (by simp [results, Tryz.results29, go_sem, *]) rfl (classOf_end HN.out HS.out HF.out HF8.out (set5L _ (n + 1) _ _ _ _ _) HV.out (by first | exact HS.out | simpa using HS.out))
def sgC (kind : Int) : Bool := kind != 1 && kind != 2
theorem classOf_any {w : World} (n0 : ByteArray) (kind file bits shift plus : Int) (E : Option Addr) (ex : List Int) (ec : Nat) (hE : RowOf IntAt 1 w E ex) (hm : ex.length ≤ 1048576) :
   Calls Tryz.prog 29 #[.agg #[.string n0, .int .i64 kind, .int .i64 file, .int .i64 bits, .int .i64 shift, .int .i64 plus, .slice E ex.length ec]] w fun e w' => ∃ v, e = .returned (.agg #[.bool (sgC kind), .int .i64 bits, .int .i64 shift, .int .i64 plus, v]) ∧ Fr w w' ∧ NewInts w.heap.size w' v ex := by
 by_cases h1 : kind = 1
 · subst h1
   exact classOf_reg n0 0 file bits shift plus E ex ec hE hm
 · by_cases h2 : kind = 2
   · subst h2
     exact classOf_uns n0 0 file bits shift plus E ex ec hE hm
   · have e1 : (kind != 1) = true := bne_iff_ne.2 h1
     have e2 : (kind != 2) = true := bne_iff_ne.2 h2
     have e3 : sgC kind = true := by unfold sgC; rw [e1, e2]; rfl
     rw [e3]
     exact classOf_sgn n0 kind file bits shift plus E ex ec e1 e2 hE hm
end Go.Proofs.YtdipnhghdajplaaGreatDoor
namespace Go.Proofs.YtdipnhghdajplaaGreatDoor
open Go.RowKit
set_option linter.unusedSimpArgs false
set_option linter.unusedVariables false
section
variable {α : Type} {F : World → List Value → α → Prop} {t : TypeId} {k base : Nat}
def PartK (F : World → List Value → α → Prop) (base : Nat) (wr : World) (sv : Value) (cs : List Value) (x : α) : Prop :=
 ∃ lo hi : Nat, base ≤ lo ∧ hi ≤ wr.heap.size ∧ (∀ g, sv.ownBlock = some g → g < lo ∨ hi ≤ g) ∧ ∀ w'' : World, (∀ b, lo ≤ b → b < hi → w''.heap[b]? = wr.heap[b]?) → F w'' cs x
structure GRow (F : World → List Value → α → Prop) (t : TypeId) (k base : Nat) (wr : World) (sv : Value) (css : List (List Value)) (l : List α) : Prop where
 row : wr.ownsRow base t k sv css.length css.flatten
 len : l.length = css.length
 all : ∀ (i : Nat) (cs : List Value) (x : α), css[i]? = some cs → l[i]? = some x → cs.length = k ∧ PartK F base wr sv cs x
theorem GRow.nil (wr : World) : GRow F t k base wr (.slice none 0 0) [] [] := ⟨World.ownsRow_nil _ _ _ _, rfl, by simp⟩
theorem PartK.fr {wr w' : World} {sv : Value} {cs : List Value} {x : α} (h : PartK F base wr sv cs x) (q : Fr wr w') : PartK F base w' sv cs x := by
 obtain ⟨lo, hi, h1, h2, h3, h4⟩ := h
 exact ⟨lo, hi, h1, Nat.le_trans h2 q.size, h3, fun w'' hk => h4 w'' fun b hb1 hb2 => (hk b hb1 hb2).trans (Below.block q b (by omega))⟩
theorem PartK.next {W w' : World} {sv sv' v : Value} {cs : List Value} {x : α} {lb o : Nat} (h : PartK F base W sv cs x) (hg : W.grownBy w' sv.ownBlock) (hn : sv'.ownBlock = sv.ownBlock ∨ sv'.ownBlock = some W.heap.size) (hlb : lb < base) : PartK F base (w'.setCell ⟨lb, o, none⟩ v) sv' cs x := by
 obtain ⟨lo, hi, h1, h2, h3, h4⟩ := h
 have hz := hg.size
 refine ⟨lo, hi, h1, by simp; omega, fun g hgo => ?_, fun w'' hk => h4 w'' fun b hb1 hb2 => ?_⟩
 · rcases hn with hn | hn
   · exact h3 g (hn.symm.trans hgo)
   · rw [hn] at hgo; injection hgo with hgo; omega
 · refine (hk b hb1 hb2).trans ((Below.heap_setCell w' ⟨lb, o, none⟩ v b (by simp only; omega)).trans (World.grownBy.block hg b (by omega) fun e => ?_))
   rcases h3 b e.symm with h5 | h5 <;> omega
theorem GRow.next {wr W w' : World} {sv sv' : Value} {css : List (List Value)} {l : List α} {cs : List Value} {x : α} {lb o : Nat} (h : GRow F t k base wr sv css l) (q : Fr wr W) (hk : cs.length = k) (hp : PartK F base W sv cs x)
   (hg : GrewK W base t k sv (css.length + 1) (css.flatten ++ cs) sv' w') (hlb : lb < base) : GRow F t k base (w'.setCell ⟨lb, o, none⟩ sv') sv' (css ++ [cs]) (l ++ [x]) := by
 have hlen : (css ++ [cs]).length = css.length + 1 := by simp
 refine ⟨?_, by simp [h.len], fun i cs' x' h1 h2 => ?_⟩
 · rw [hlen, List.flatten_append, List.flatten_cons, List.flatten_nil, List.append_nil]
   refine hg.1.kept (row := some lb) ⟨rfl, rfl, rfl, by simp, fun k _ hn => Below.heap_setCell w' ⟨lb, o, none⟩ _ k (fun e => hn (congrArg some e))⟩ (.inr fun e => ?_)
   have := (World.ownsRow.lt hg.1 lb e).1
   omega
 · rcases Nat.lt_or_ge i css.length with hi | hi
   · rw [List.getElem?_append_left hi] at h1
     rw [List.getElem?_append_left (by rw [h.len]; exact hi)] at h2
     obtain ⟨h3, h4⟩ := h.all i cs' x' h1 h2
     exact ⟨h3, (h4.fr q).next hg.2.1 hg.2.2 hlb⟩
   · have hi2 := (List.getElem?_eq_some_iff.1 h1).1
     obtain rfl : i = css.length := by rw [hlen] at hi2; omega
     rw [List.getElem?_append_right (Nat.le_refl _), Nat.sub_self] at h1
     rw [List.getElem?_append_right (by rw [h.len]; exact Nat.le_refl _), h.len, Nat.sub_self] at h2
     obtain rfl : cs = cs' := by simpa using h1
     obtain rfl : x = x' := by simpa using h2
     exact ⟨hk, hp.next hg.2.1 hg.2.2 hlb⟩
theorem flat_get {k : Nat} : ∀ (css : List (List Value)) (i j : Nat) (cs : List Value) (v : Value), (∀ c ∈ css, c.length = k) → css[i]? = some cs → cs[j]? = some v → css.flatten[i * k + j]? = some v
 | [], i, j, cs, v, _, h, _ => by simp at h
 | a :: r, 0, j, cs, v, hl, h, hj => by
   obtain rfl : a = cs := by simpa using h
   have : j < a.length := (List.getElem?_eq_some_iff.1 hj).1
   rw [List.flatten_cons, Nat.zero_mul, Nat.zero_add, List.getElem?_append_left this]; exact hj
 | a :: r, i + 1, j, cs, v, hl, h, hj => by
   have ha := hl a (by simp)
   rw [List.flatten_cons, List.getElem?_append_right (by rw [ha, Nat.succ_mul]; omega), ha, show (i + 1) * k + j - k = i * k + j by rw [Nat.succ_mul]; omega]
   exact flat_get r i j cs v (fun c hc => hl c (by simp [hc])) (by simpa using h) hj
theorem GRow.done {wr : World} {sv : Value} {css : List (List Value)} {l : List α} (h : GRow F t k base wr sv css l) {f : World → Nat → Nat → α → Prop}
   (hf : ∀ (w'' : World) (b o : Nat) (cs : List Value) (x : α), F w'' cs x → (∀ (j : Nat) (v : Value), cs[j]? = some v → w''.cell? ⟨b, o + j, none⟩ = some v) → f w'' b o x) :
   ∃ A c, sv = .slice A l.length c ∧ ∀ w'' : World, (∀ b, base ≤ b → b < wr.heap.size → w''.heap[b]? = wr.heap[b]?) → RowOf f k w'' A l := by
 rcases h.row.2 with ⟨rfl, hn⟩ | ⟨g, cap, cur, rfl, hb, hg, _, _, hs, ht⟩
 · exact ⟨none, 0, by rw [h.len, hn], fun w'' _ h0 => by rw [h.len, hn] at h0; omega⟩
 · refine ⟨some ⟨g, 0, none⟩, cap, by rw [h.len], fun w'' hk _ => ⟨g, 0, rfl, fun i hi => ?_⟩⟩
   have hi2 : i < css.length := by rw [← h.len]; exact hi
   have hlt : g < wr.heap.size := (Array.getElem?_eq_some_iff.1 hg).1
   have hg' := (hk g hb hlt).trans hg
   obtain ⟨h1, lo, hh, h2, h3, _, h4⟩ := h.all i css[i] l[i] (List.getElem?_eq_getElem hi2) (List.getElem?_eq_getElem hi)
   refine hf w'' g _ css[i] l[i] (h4 w'' fun b hb1 hb2 => hk b (by omega) (by omega)) fun j v hj => ?_
   have h5 := flat_get css i j css[i] v (fun c hc => by
     obtain ⟨m, hm, rfl⟩ := List.mem_iff_getElem.1 hc
     have hml : m < l.length := by rw [h.len]; exact hm
     exact (h.all m css[m] l[m] (List.getElem?_eq_getElem hm) (List.getElem?_eq_getElem hml)).1) (List.getElem?_eq_getElem hi2) hj
   rw [← ht] at h5
   have h6 : i * k + j < css.length * k := by
     rcases Nat.lt_or_ge (i * k + j) (css.length * k) with h6 | h6
     · exact h6
     · rw [List.getElem?_eq_none (by rw [List.length_take]; omega)] at h5; cases h5
   rw [List.getElem?_take_of_lt h6] at h5
   rw [Nat.zero_add, Nat.mul_comm k i]
   simp [World.cell?, hg']
   simpa using h5
end
end Go.Proofs.YtdipnhghdajplaaGreatDoor
namespace Go.Proofs.YtdipnhghdajplaaGreatDoor
open Go.RowKit
set_option linter.unusedSimpArgs false
set_option linter.unusedVariables false
theorem Tryz.infoC1 : (Tryz.prog.info? 89).map (fun i => (i.zero, i.size, i.bytes)) = some (some (.agg #[.bool false, .int .i64 0, .int .i64 0, .int .i64 0, .slice none 0 0]), 5, 56) := by kernel_rfl
theorem Tryz.infoC2 : (Tryz.prog.info? 95).map (fun i => (i.zero, i.size, i.bytes)) = some (some (.agg #[.int .i64 0, .int .u64 0, .int .u64 0, .int .u64 0, .int .u64 0, .bool false, .slice none 0 0]), 7, 72) := by kernel_rfl
noncomputable def cnew8R : Array Oper := ((Tryz.f11.body.bind (findR 8)).getD #[])
set_option maxHeartbeats 6400000 in
set_option maxRecDepth 100000 in
theorem cnew8 {Q : Exit → Act → World → Prop} (df : List Deferred) (u0 u1 u2 u3 u4 u5 u7 u9 u10 u11 u12 u13 u14 u15 u16 u17 u18 u19 u20 u21 u22 u23 u24 u25 u26 u27 u28 u29 u30 u31 u32 u33 u34 u35 u36 u37 u38 u39 u40 u41 u42 u43 u44 u45 u46 u47 u48 u49 u50 u51 u52 u53 u54 u55 u56 u57 u58 : Value) (cb kb0 : Nat) (n0 : ByteArray) (kind file bits shift plus : Int) (E : Option Addr) (ex : List Int) (ec : Nat) (O : Option Addr) (ol oc : Nat) {w : World}
   (c0 : w.cell? ⟨cb, 0, none⟩ = some (.slice O ol oc)) (kb : BlkAt w kb0 [.string n0, .int .i64 kind, .int .i64 file, .int .i64 bits, .int .i64 shift, .int .i64 plus, .slice E ex.length ec])
   (base : Nat) (xs : List Value) (hown : w.ownsRow base 89 5 (.slice O ol oc) ol xs) (hol : ol ≤ 1000) (hlb : cb < base) (hnk : (Value.slice O ol oc).ownBlock ≠ some kb0) (hbw : base ≤ w.heap.size) (f0 : w.frozen? ⟨cb, 0, none⟩ = false)
   (hcall : ∀ w1, Fr w w1 → Calls Tryz.prog 29 #[.agg #[.string n0, .int .i64 kind, .int .i64 file, .int .i64 bits, .int .i64 shift, .int .i64 plus, .slice E ex.length ec]] w1 fun e w' => ∃ v, e = .returned (.agg #[.bool (sgC kind), .int .i64 bits, .int .i64 shift, .int .i64 plus, v]) ∧ Fr w1 w' ∧ NewInts w1.heap.size w' v ex)
   (hT : ∀ (g cap : Nat) (w2 w' : World) (A8 : Option Addr) (c8 : Nat) (x27 x28 x29 x30 x31 x32 x33 x34 x35 x36 x37 : Value), Fr w w2 → (∀ w'' : World, (∀ b, w.heap.size ≤ b → b < w2.heap.size → w''.heap[b]? = w2.heap[b]?) → RowOf IntC 1 w'' A8 ex) → GrewK (w2.alloc (.cells #[.bool (sgC kind), .int .i64 bits, .int .i64 shift, .int .i64 plus, .slice A8 ex.length c8] 89)) base 89 5 (.slice O ol oc) (ol + 1) (xs ++ [.bool (sgC kind), .int .i64 bits, .int .i64 shift, .int .i64 plus, .slice A8 ex.length c8]) (.slice (some ⟨g, 0, none⟩) (ol + 1) cap) w' → Q .normal ⟨#[u0, u1, u2, u3, u4, u5, .pointer (some ⟨cb, 0, none⟩), u7, .pointer (some ⟨kb0, 0, none⟩), u9, u10, u11, u12, u13, u14, u15, u16, u17, u18, u19, u20, u21, u22, u23, u24, u25, u26, x27, x28, x29, x30, x31, x32, x33, x34, x35, x36, x37, u38, u39, u40, u41, u42, u43, u44, u45, u46, u47, u48, u49, u50, u51, u52, u53, u54, u55, u56, u57, u58], df⟩ (w'.setCell ⟨cb, 0, none⟩ (.slice (some ⟨g, 0, none⟩) (ol + 1) cap)))
   : (Code.region 8 cnew8R true).wp Tryz.prog Q ⟨#[u0, u1, u2, u3, u4, u5, .pointer (some ⟨cb, 0, none⟩), u7, .pointer (some ⟨kb0, 0, none⟩), u9, u10, u11, u12, u13, u14, u15, u16, u17, u18, u19, u20, u21, u22, u23, u24, u25, u26, u27, u28, u29, u30, u31, u32, u33, u34, u35, u36, u37, u38, u39, u40, u41, u42, u43, u44, u45, u46, u47, u48, u49, u50, u51, u52, u53, u54, u55, u56, u57, u58], df⟩ w := by
 conv => arg 2; arg 2; whnf
 refine wp_region_noPanic ?_
 refine wp_region_head (n := 9) (S := fun wx => wx.cell? ⟨cb, 0, none⟩ = some (.slice O ol oc) ∧ BlkAt wx kb0 [.string n0, .int .i64 kind, .int .i64 file, .int .i64 bits, .int .i64 shift, .int .i64 plus, .slice E ex.length ec]) (by kernel_rfl) (by decide) ?_
 have HSF := Lib.hid (fun (wx : World) (k : Fr w wx) => (⟨k.get c0, kb.fr k⟩ : wx.cell? ⟨cb, 0, none⟩ = some (.slice O ol oc) ∧ BlkAt wx kb0 [.string n0, .int .i64 kind, .int .i64 file, .int .i64 bits, .int .i64 shift, .int .i64 plus, .slice E ex.length ec]))
 have HBK := Lib.hid kb
 have HDF : Fr w w.drew := Fr.drew (Fr.refl w)
 have HD := HSF.out _ HDF
 simp only [List.size_toArray, List.length_cons, List.length_nil, Nat.reduceAdd]
 refine wpHead_take (i := 0) (v := ?_) rfl (by kernel_rfl) (fun _ _ _ h => h) (Or.inl ⟨by rfl, ?hy0⟩) HD ?rest0
 case hy0 => (intro w' hw'; go_simp) <;> (try with_reducible rfl)
 (try simp only [Act.put, List.getElem_toArray, List.getElem_cons_zero, List.getElem_cons_succ, List.setIfInBounds_toArray, List.set_cons_zero, List.set_cons_succ])
 refine wpHead_take (i := 1) (v := ?_) rfl (by kernel_rfl) (fun _ _ _ h => h) (Or.inl ⟨by rfl, ?hy1⟩) HD ?rest1
 case hy1 => (intro w' hw'; go_simp) <;> (try with_reducible rfl)
 (try simp only [Act.put, List.getElem_toArray, List.getElem_cons_zero, List.getElem_cons_succ, List.setIfInBounds_toArray, List.set_cons_zero, List.set_cons_succ])
 refine wpHead_take (i := 2) (v := ?_) rfl (by kernel_rfl) (fun _ _ _ h => h) (Or.inl ⟨by rfl, ?hy2⟩) HD ?rest2
 case hy2 => (intro w' hw'; go_simp) <;> (try with_reducible rfl)
 (try simp only [Act.put, List.getElem_toArray, List.getElem_cons_zero, List.getElem_cons_succ, List.setIfInBounds_toArray, List.set_cons_zero, List.set_cons_succ])
 refine wpHead_take (i := 3) (v := ?_) rfl (by kernel_rfl) (fun _ _ _ h => h) (Or.inl ⟨by rfl, ?hy3⟩) HD ?rest3
 case hy3 => (intro w' hw'; go_simp) <;> (try with_reducible rfl)
 (try simp only [Act.put, List.getElem_toArray, List.getElem_cons_zero, List.getElem_cons_succ, List.setIfInBounds_toArray, List.set_cons_zero, List.set_cons_succ])
 refine wpHead_take (i := 4) (v := ?_) rfl (by kernel_rfl) (fun _ _ _ h => h) (Or.inl ⟨by rfl, ?hy4⟩) HD ?rest4
 case hy4 => (intro w' hw'; have g0 := hw'.1; go_simp) <;> (try with_reducible rfl)
 (try simp only [Act.put, List.getElem_toArray, List.getElem_cons_zero, List.getElem_cons_succ, List.setIfInBounds_toArray, List.set_cons_zero, List.set_cons_succ])
 refine wpHead_take (i := 5) (v := ?_) rfl (by kernel_rfl) (fun _ _ _ h => h) (Or.inl ⟨by rfl, ?hy5⟩) HD ?rest5
 case hy5 => (intro w' hw'; have g0 := hw'.2 0 _ rfl; have g1 := hw'.2 1 _ rfl; have g2 := hw'.2 2 _ rfl; have g3 := hw'.2 3 _ rfl; have g4 := hw'.2 4 _ rfl; have g5 := hw'.2 5 _ rfl; have g6 := hw'.2 6 _ rfl; go_simp) <;> (try with_reducible rfl)
 (try simp only [Act.put, List.getElem_toArray, List.getElem_cons_zero, List.getElem_cons_succ, List.setIfInBounds_toArray, List.set_cons_zero, List.set_cons_succ])
 clear kb
 have HDR := Lib.hid HDF
 clear HDF HD
 refine wpHead_go (i := 6) rfl (by kernel_rfl) (by decide) rfl (fun K hK => ?_)
 go_simp
 refine (hcall _ HDR.out).mono ?_
 rintro e w2 ⟨_, rfl, hf2, A8, c8, rfl, hv⟩
 have HF2 := Lib.hid (HDR.out.call hf2)
 have HV := Lib.hid hv
 clear hf2 hv hcall
 (try go_wp2_with fail)
 refine hK _ _ (HSF.out _ HF2.out) ?_
 try simp only [Act.put, List.getElem_toArray, List.getElem_cons_zero, List.getElem_cons_succ, List.setIfInBounds_toArray, List.set_cons_zero, List.set_cons_succ]
 clear hK K
 refine wpHead_go (i := 7) rfl (by kernel_rfl) (by decide) rfl (fun K hK => ?_)
 go_simp
 have HF := Fr.alloc HF2.out (.cells #[.bool (sgC kind), .int .i64 bits, .int .i64 shift, .int .i64 plus, .slice A8 ex.length c8] 89)
 refine hK _ _ (HSF.out _ HF) ?_
 clear hK K
 try simp only [Act.put, List.getElem_toArray, List.getElem_cons_zero, List.getElem_cons_succ, List.setIfInBounds_toArray, List.set_cons_zero, List.set_cons_succ]
 have hown2 : ((w2.alloc (.cells #[.bool (sgC kind), .int .i64 bits, .int .i64 shift, .int .i64 plus, .slice A8 ex.length c8] 89))).ownsRow base 89 5 (.slice O ol oc) ol xs := ownsRow_fr hown HF
 have c02 := HF.get c0
 have f02 := HF.free c0 f0
 have hne : (Value.slice O ol oc).ownBlock ≠ some cb := fun h => by
   have := (World.ownsRow.lt hown cb h).1
   omega
 have hz : w.heap.size ≤ (w2.alloc (.cells #[.bool (sgC kind), .int .i64 bits, .int .i64 shift, .int .i64 plus, .slice A8 ex.length c8] 89)).heap.size := HF.size
 refine wpHead_go (i := 8) rfl (by kernel_rfl) (by decide) rfl (fun K hK => ?_)
 refine wp_appendk _ (.tmp 31) (.tmp 34) 84 rfl base 89 5 Tryz.underlying84 Tryz.infoC1 rfl (by decide) (.slice O ol oc) ol xs rfl hown2 (some ⟨w2.heap.size, 0, none⟩) 1 1 [.bool (sgC kind), .int .i64 bits, .int .i64 shift, .int .i64 plus, .slice A8 ex.length c8] rfl rfl ?_ (fun h => by cases h) ?_ ?_ ?_ ?_ ?_
 · intro _
   refine ⟨_, rfl, fun j u hj => ?_⟩
   rw [add_zero_k2]
   exact BlkAt.alloc (w := w2) (t := 89) (cs := #[.bool (sgC kind), .int .i64 bits, .int .i64 shift, .int .i64 plus, .slice A8 ex.length c8]) j u hj
 · intro u hu
   simp only [List.mem_cons, List.not_mem_nil, or_false] at hu
   rcases hu with rfl | rfl | rfl | rfl | rfl <;> rfl
 · exact Nat.le_trans (show ol + 1 ≤ 1001 by omega) (by decide)
 · omega
 · exact Nat.le_trans hbw hz
 · intro v' w' hg
   have hgr := hg.out
   rcases hgr.1.2 with ⟨_, hn⟩ | ⟨g, cap, cur, rfl, _⟩
   · omega
   have c63 := grew_cell hgr.2.1 hne c02
   have hbk : BlkAt w' kb0 [.string n0, .int .i64 kind, .int .i64 file, .int .i64 bits, .int .i64 shift, .int .i64 plus, .slice E ex.length ec] := fun j u hu => grew_cell hgr.2.1 hnk (HF.get (HBK.out j u hu))
   refine hK _ _ ⟨c63, hbk⟩ ?_
   clear hK K hbk
   refine wpHead_done (by kernel_rfl) ?_
   simp only [List.drop_succ_cons, List.drop_zero]
   have f63 := grew_free hgr.2.1 hne c02 f02
   have HT := Lib.hid (fun (x27 x28 x29 x30 x31 x32 x33 x34 x35 x36 x37 : Value) => hT g cap w2 w' A8 c8 x27 x28 x29 x30 x31 x32 x33 x34 x35 x36 x37 HF2.out HV.out hg.out)
   clear hg hgr hown hown2 c0 c02 f0 f02 hT
   generalize (w2.alloc (.cells #[.bool (sgC kind), .int .i64 bits, .int .i64 shift, .int .i64 plus, .slice A8 ex.length c8] 89)) = W at *
   simp only [Act.put, List.getElem_toArray, List.getElem_cons_zero, List.getElem_cons_succ, List.setIfInBounds_toArray, List.set_cons_zero, List.set_cons_succ]
   go_wp2
   refine NoPanic.normal ?_
   exact HT.out _ _ _ _ _ _ _ _ _ _ _
noncomputable def cnew13R : Array Oper := ((Tryz.f11.body.bind (findR 13)).getD #[])
set_option maxHeartbeats 6400000 in
set_option maxRecDepth 100000 in
theorem cnew13 {Q : Exit → Act → World → Prop} (df : List Deferred) (u0 u2 u3 u4 u5 u7 u8 u10 u11 u12 u13 u14 u15 u16 u17 u18 u19 u20 u21 u22 u23 u24 u25 u26 u27 u28 u29 u30 u31 u32 u33 u34 u35 u36 u37 u38 u39 u40 u41 u42 u43 u44 u45 u46 u47 u48 u49 u50 u51 u52 u53 u54 u55 u56 u57 u58 : Value) (cb db0 n : Nat) (s0 : ByteArray) (order : Int) (Fa Ba Ga Ca Ma Ra Ua Xa Ka Na Pa : Option Addr) (fl fc bl bc gl gc cl cc ml mc rl rc ul uc xl xc kl kc nl nc pl pc : Nat) (T : Cf) (O : Option Addr) (ol oc : Nat) {w : World}
   (c0 : w.cell? ⟨cb, 1, none⟩ = some (.slice O ol oc)) (db : BlkAt w db0 [.string s0, .int .i64 order, .slice Fa fl fc, .slice Ba bl bc, .slice Ga gl gc, .slice Ca cl cc, .slice Ma ml mc, .slice Ra rl rc, .slice Ua ul uc, .slice Xa xl xc, .slice Ka kl kc, .slice Na nl nc, .slice Pa pl pc])
   (base : Nat) (xs : List Value) (hown : w.ownsRow base 95 7 (.slice O ol oc) ol xs) (hol : ol ≤ 1000) (hlb : cb < base) (hnk : (Value.slice O ol oc).ownBlock ≠ some db0) (hbw : base ≤ w.heap.size) (f0 : w.frozen? ⟨cb, 1, none⟩ = false)
   (hcall : ∀ w1, Fr w w1 → Calls Tryz.prog 30 #[.agg #[.string s0, .int .i64 order, .slice Fa fl fc, .slice Ba bl bc, .slice Ga gl gc, .slice Ca cl cc, .slice Ma ml mc, .slice Ra rl rc, .slice Ua ul uc, .slice Xa xl xc, .slice Ka kl kc, .slice Na nl nc, .slice Pa pl pc], .int .i64 (n : Int)] w1 fun e w' => ∃ O oc, e = .returned (.agg (cfV T O T.ops.length oc).toArray) ∧ Fr w1 w' ∧ ∀ w'' : World, (∀ b, w1.heap.size ≤ b → b < w'.heap.size → w''.heap[b]? = w'.heap[b]?) → RowOf OcRd 2 w'' O T.ops)
   (hT : ∀ (g cap : Nat) (w2 w' : World) (A8 : Option Addr) (c8 : Nat) (x45 x46 x47 x48 x49 x50 x51 x52 x53 x54 x55 x56 : Value), Fr w w2 → (∀ w'' : World, (∀ b, w.heap.size ≤ b → b < w2.heap.size → w''.heap[b]? = w2.heap[b]?) → RowOf OcRd 2 w'' A8 T.ops) → GrewK (w2.alloc (.cells #[.int .i64 (T.size : Int), .int .u64 (T.l0 : Int), .int .u64 (T.l1 : Int), .int .u64 (T.u0 : Int), .int .u64 (T.u1 : Int), .bool T.canon, .slice A8 T.ops.length c8] 95)) base 95 7 (.slice O ol oc) (ol + 1) (xs ++ [.int .i64 (T.size : Int), .int .u64 (T.l0 : Int), .int .u64 (T.l1 : Int), .int .u64 (T.u0 : Int), .int .u64 (T.u1 : Int), .bool T.canon, .slice A8 T.ops.length c8]) (.slice (some ⟨g, 0, none⟩) (ol + 1) cap) w' → Q .normal ⟨#[u0, .pointer (some ⟨db0, 0, none⟩), u2, u3, u4, u5, .pointer (some ⟨cb, 0, none⟩), u7, u8, .int .i64 (n : Int), u10, u11, u12, u13, u14, u15, u16, u17, u18, u19, u20, u21, u22, u23, u24, u25, u26, u27, u28, u29, u30, u31, u32, u33, u34, u35, u36, u37, u38, u39, u40, u41, u42, u43, u44, x45, x46, x47, x48, x49, x50, x51, x52, x53, x54, x55, x56, u57, u58], df⟩ (w'.setCell ⟨cb, 1, none⟩ (.slice (some ⟨g, 0, none⟩) (ol + 1) cap)))
   : (Code.region 13 cnew13R true).wp Tryz.prog Q ⟨#[u0, .pointer (some ⟨db0, 0, none⟩), u2, u3, u4, u5, .pointer (some ⟨cb, 0, none⟩), u7, u8, .int .i64 (n : Int), u10, u11, u12, u13, u14, u15, u16, u17, u18, u19, u20, u21, u22, u23, u24, u25, u26, u27, u28, u29, u30, u31, u32, u33, u34, u35, u36, u37, u38, u39, u40, u41, u42, u43, u44, u45, u46, u47, u48, u49, u50, u51, u52, u53, u54, u55, u56, u57, u58], df⟩ w := by
 conv => arg 2; arg 2; whnf
 refine wp_region_noPanic ?_
 refine wp_region_head (n := 10) (S := fun wx => wx.cell? ⟨cb, 1, none⟩ = some (.slice O ol oc) ∧ BlkAt wx db0 [.string s0, .int .i64 order, .slice Fa fl fc, .slice Ba bl bc, .slice Ga gl gc, .slice Ca cl cc, .slice Ma ml mc, .slice Ra rl rc, .slice Ua ul uc, .slice Xa xl xc, .slice Ka kl kc, .slice Na nl nc, .slice Pa pl pc]) (by kernel_rfl) (by decide) ?_
 have HSF := Lib.hid (fun (wx : World) (k : Fr w wx) => (⟨k.get c0, db.fr k⟩ : wx.cell? ⟨cb, 1, none⟩ = some (.slice O ol oc) ∧ BlkAt wx db0 [.string s0, .int .i64 order, .slice Fa fl fc, .slice Ba bl bc, .slice Ga gl gc, .slice Ca cl cc, .slice Ma ml mc, .slice Ra rl rc, .slice Ua ul uc, .slice Xa xl xc, .slice Ka kl kc, .slice Na nl nc, .slice Pa pl pc]))
 have HBK := Lib.hid db
 have HDF : Fr w w.drew := Fr.drew (Fr.refl w)
 have HD := HSF.out _ HDF
 simp only [List.size_toArray, List.length_cons, List.length_nil, Nat.reduceAdd]
 refine wpHead_take (i := 0) (v := ?_) rfl (by kernel_rfl) (fun _ _ _ h => h) (Or.inl ⟨by rfl, ?hy0⟩) HD ?rest0
 case hy0 => (intro w' hw'; go_simp) <;> (try with_reducible rfl)
 (try simp only [Act.put, List.getElem_toArray, List.getElem_cons_zero, List.getElem_cons_succ, List.setIfInBounds_toArray, List.set_cons_zero, List.set_cons_succ])
 refine wpHead_take (i := 1) (v := ?_) rfl (by kernel_rfl) (fun _ _ _ h => h) (Or.inl ⟨by rfl, ?hy1⟩) HD ?rest1
 case hy1 => (intro w' hw'; go_simp) <;> (try with_reducible rfl)
 (try simp only [Act.put, List.getElem_toArray, List.getElem_cons_zero, List.getElem_cons_succ, List.setIfInBounds_toArray, List.set_cons_zero, List.set_cons_succ])
 refine wpHead_take (i := 2) (v := ?_) rfl (by kernel_rfl) (fun _ _ _ h => h) (Or.inl ⟨by rfl, ?hy2⟩) HD ?rest2
 case hy2 => (intro w' hw'; go_simp) <;> (try with_reducible rfl)
 (try simp only [Act.put, List.getElem_toArray, List.getElem_cons_zero, List.getElem_cons_succ, List.setIfInBounds_toArray, List.set_cons_zero, List.set_cons_succ])
 refine wpHead_take (i := 3) (v := ?_) rfl (by kernel_rfl) (fun _ _ _ h => h) (Or.inl ⟨by rfl, ?hy3⟩) HD ?rest3
 case hy3 => (intro w' hw'; go_simp) <;> (try with_reducible rfl)
 (try simp only [Act.put, List.getElem_toArray, List.getElem_cons_zero, List.getElem_cons_succ, List.setIfInBounds_toArray, List.set_cons_zero, List.set_cons_succ])
 refine wpHead_take (i := 4) (v := ?_) rfl (by kernel_rfl) (fun _ _ _ h => h) (Or.inl ⟨by rfl, ?hy4⟩) HD ?rest4
 case hy4 => (intro w' hw'; have g0 := hw'.1; go_simp) <;> (try with_reducible rfl)
 (try simp only [Act.put, List.getElem_toArray, List.getElem_cons_zero, List.getElem_cons_succ, List.setIfInBounds_toArray, List.set_cons_zero, List.set_cons_succ])
 refine wpHead_take (i := 5) (v := ?_) rfl (by kernel_rfl) (fun _ _ _ h => h) (Or.inl ⟨by rfl, ?hy5⟩) HD ?rest5
 case hy5 => (intro w' hw'; have g0 := hw'.2 0 _ rfl; have g1 := hw'.2 1 _ rfl; have g2 := hw'.2 2 _ rfl; have g3 := hw'.2 3 _ rfl; have g4 := hw'.2 4 _ rfl; have g5 := hw'.2 5 _ rfl; have g6 := hw'.2 6 _ rfl; have g7 := hw'.2 7 _ rfl; have g8 := hw'.2 8 _ rfl; have g9 := hw'.2 9 _ rfl; have g10 := hw'.2 10 _ rfl; have g11 := hw'.2 11 _ rfl; have g12 := hw'.2 12 _ rfl; go_simp) <;> (try with_reducible rfl)
 (try simp only [Act.put, List.getElem_toArray, List.getElem_cons_zero, List.getElem_cons_succ, List.setIfInBounds_toArray, List.set_cons_zero, List.set_cons_succ])
 refine wpHead_take (i := 6) (v := ?_) rfl (by kernel_rfl) (fun _ _ _ h => h) (Or.inl ⟨by rfl, ?hy6⟩) HD ?rest6
 case hy6 => (intro w' hw'; go_simp) <;> (try with_reducible rfl)
 (try simp only [Act.put, List.getElem_toArray, List.getElem_cons_zero, List.getElem_cons_succ, List.setIfInBounds_toArray, List.set_cons_zero, List.set_cons_succ])
 clear db
 have HDR := Lib.hid HDF
 clear HDF HD
 refine wpHead_go (i := 7) rfl (by kernel_rfl) (by decide) rfl (fun K hK => ?_)
 go_simp
 refine (hcall _ HDR.out).mono ?_
 rintro e w2 ⟨A8, c8, rfl, hf2, hv⟩
 have HF2 := Lib.hid (HDR.out.call hf2)
 have HV := Lib.hid hv
 clear hf2 hv hcall
 (try go_wp2_with fail)
 refine hK _ _ (HSF.out _ HF2.out) ?_
 try simp only [Act.put, List.getElem_toArray, List.getElem_cons_zero, List.getElem_cons_succ, List.setIfInBounds_toArray, List.set_cons_zero, List.set_cons_succ]
 clear hK K
 refine wpHead_go (i := 8) rfl (by kernel_rfl) (by decide) rfl (fun K hK => ?_)
 go_simp
 have HF := Fr.alloc HF2.out (.cells #[.int .i64 (T.size : Int), .int .u64 (T.l0 : Int), .int .u64 (T.l1 : Int), .int .u64 (T.u0 : Int), .int .u64 (T.u1 : Int), .bool T.canon, .slice A8 T.ops.length c8] 95)
 refine hK _ _ (HSF.out _ HF) ?_
 clear hK K
 try simp only [Act.put, List.getElem_toArray, List.getElem_cons_zero, List.getElem_cons_succ, List.setIfInBounds_toArray, List.set_cons_zero, List.set_cons_succ]
 have hown2 : ((w2.alloc (.cells #[.int .i64 (T.size : Int), .int .u64 (T.l0 : Int), .int .u64 (T.l1 : Int), .int .u64 (T.u0 : Int), .int .u64 (T.u1 : Int), .bool T.canon, .slice A8 T.ops.length c8] 95))).ownsRow base 95 7 (.slice O ol oc) ol xs := ownsRow_fr hown HF
 have c02 := HF.get c0
 have f02 := HF.free c0 f0
 have hne : (Value.slice O ol oc).ownBlock ≠ some cb := fun h => by
   have := (World.ownsRow.lt hown cb h).1
   omega
 have hz : w.heap.size ≤ (w2.alloc (.cells #[.int .i64 (T.size : Int), .int .u64 (T.l0 : Int), .int .u64 (T.l1 : Int), .int .u64 (T.u0 : Int), .int .u64 (T.u1 : Int), .bool T.canon, .slice A8 T.ops.length c8] 95)).heap.size := HF.size
 refine wpHead_go (i := 9) rfl (by kernel_rfl) (by decide) rfl (fun K hK => ?_)
 refine wp_appendk _ (.tmp 49) (.tmp 53) 85 rfl base 95 7 Tryz.underlying85 Tryz.infoC2 rfl (by decide) (.slice O ol oc) ol xs rfl hown2 (some ⟨w2.heap.size, 0, none⟩) 1 1 [.int .i64 (T.size : Int), .int .u64 (T.l0 : Int), .int .u64 (T.l1 : Int), .int .u64 (T.u0 : Int), .int .u64 (T.u1 : Int), .bool T.canon, .slice A8 T.ops.length c8] rfl rfl ?_ (fun h => by cases h) ?_ ?_ ?_ ?_ ?_
 · intro _
   refine ⟨_, rfl, fun j u hj => ?_⟩
   rw [add_zero_k2]
   exact BlkAt.alloc (w := w2) (t := 95) (cs := #[.int .i64 (T.size : Int), .int .u64 (T.l0 : Int), .int .u64 (T.l1 : Int), .int .u64 (T.u0 : Int), .int .u64 (T.u1 : Int), .bool T.canon, .slice A8 T.ops.length c8]) j u hj
 · intro u hu
   simp only [List.mem_cons, List.not_mem_nil, or_false] at hu
   rcases hu with rfl | rfl | rfl | rfl | rfl | rfl | rfl <;> rfl
 · exact Nat.le_trans (show ol + 1 ≤ 1001 by omega) (by decide)
 · omega
 · exact Nat.le_trans hbw hz
 · intro v' w' hg
   have hgr := hg.out
   rcases hgr.1.2 with ⟨_, hn⟩ | ⟨g, cap, cur, rfl, _⟩
   · omega
   have c63 := grew_cell hgr.2.1 hne c02
   have hbk : BlkAt w' db0 [.string s0, .int .i64 order, .slice Fa fl fc, .slice Ba bl bc, .slice Ga gl gc, .slice Ca cl cc, .slice Ma ml mc, .slice Ra rl rc, .slice Ua ul uc, .slice Xa xl xc, .slice Ka kl kc, .slice Na nl nc, .slice Pa pl pc] := fun j u hu => grew_cell hgr.2.1 hnk (HF.get (HBK.out j u hu))
   refine hK _ _ ⟨c63, hbk⟩ ?_
   clear hK K hbk
   refine wpHead_done (by kernel_rfl) ?_
   simp only [List.drop_succ_cons, List.drop_zero]
   have f63 := grew_free hgr.2.1 hne c02 f02
   have HT := Lib.hid (fun (x45 x46 x47 x48 x49 x50 x51 x52 x53 x54 x55 x56 : Value) => hT g cap w2 w' A8 c8 x45 x46 x47 x48 x49 x50 x51 x52 x53 x54 x55 x56 HF2.out HV.out hg.out)
   clear hg hgr hown hown2 c0 c02 f0 f02 hT
   generalize (w2.alloc (.cells #[.int .i64 (T.size : Int), .int .u64 (T.l0 : Int), .int .u64 (T.l1 : Int), .int .u64 (T.u0 : Int), .int .u64 (T.u1 : Int), .bool T.canon, .slice A8 T.ops.length c8] 95)) = W at *
   simp only [Act.put, List.getElem_toArray, List.getElem_cons_zero, List.getElem_cons_succ, List.setIfInBounds_toArray, List.set_cons_zero, List.set_cons_succ]
   go_wp2
   refine NoPanic.normal ?_
   exact HT.out _ _ _ _ _ _ _ _ _ _ _ _
theorem containsC_any {w : World} {A : Option Addr} {l : List Int} (c : Nat) (h : RowOf IntC 1 w A l) (hm : l.length ≤ maxLen) (x : Int) :
   Calls Tryz.prog 102 #[.slice A l.length c, .int .i64 x] w fun e w' => e = .returned (.bool (l.contains x)) ∧ w' = w := by
 by_cases h0 : 0 < l.length
 · obtain ⟨b, o, rfl, hx⟩ := h h0
   have := Tryz.slices_Contains_int b o l.length c l x w (Nat.le_refl _) (Nat.le_trans hm (by decide)) (fun j hj => by
     have := hx j hj
     unfold IntC at this
     rw [Nat.one_mul] at this
     rw [this, List.getD_eq_getElem?_getD, List.getElem?_eq_getElem hj]; rfl)
   rwa [List.take_length] at this
 · obtain rfl : l = [] := List.eq_nil_of_length_eq_zero (by omega)
   exact Tryz.slices_Contains_int_empty A c x w
set_option maxHeartbeats 3200000 in
set_option maxRecDepth 100000 in
theorem excepts_any {w : World} (b o : Nat) {A : Option Addr} {l : List Int} (c : Nat) (x : Int) (h4 : w.cell? ⟨b, o + 4, none⟩ = some (.slice A l.length c)) (h : RowOf IntC 1 w A l) (hm : l.length ≤ maxLen) :
   Calls Tryz.prog 62 #[.pointer (some ⟨b, o, none⟩), .int .i64 x] w fun e w' => e = .returned (.bool (l.contains x)) ∧ w' = w := by
 have hC := containsC_any c h hm x
 generalize l.contains x = y at *
 have HC := Lib.hid hC
 have zb := lt_of_cell h4
 clear h hm hC
 go_enter Tryz.func62, Tryz.ntmps62
 go_wp2_with fail
 refine HC.out.mono ?_
 rintro e w' ⟨rfl, rfl⟩
 go_wp2
 go_ret
 exact ⟨rfl, rfl⟩
set_option maxHeartbeats 6400000 in
set_option maxRecDepth 100000 in
theorem among_any (a b c d : Nat) (ha : a < 18446744073709551616) (hb : b < 18446744073709551616) (hc : c < 18446744073709551616) (hd : d < 18446744073709551616) (w : World) :
   Calls Tryz.prog 38 #[.agg #[.int .u64 (a : Int), .int .u64 (b : Int)], .agg #[.int .u64 (c : Int), .int .u64 (d : Int)]] w fun e w' => e = .returned (.agg #[.int .u64 ((a &&& c : Nat) : Int), .int .u64 ((b &&& d : Nat) : Int)]) ∧ Fr w w' := by
 have e1 : bits .and .u64 (a : Int) (c : Int) = ((a &&& c : Nat) : Int) := u64_and_nat a c ha hc
 have e2 : bits .and .u64 (b : Int) (d : Int) = ((b &&& d : Nat) : Int) := u64_and_nat b d hb hd
 generalize a &&& c = x at *
 generalize b &&& d = y at *
 go_enter Tryz.func38, Tryz.ntmps38
 go_wp2
 refine bodyPost_ret (v := .agg #[.int .u64 (x : Int), .int .u64 (y : Int)]) (by simp [results, Tryz.results38, go_sem, *]) rfl ⟨rfl, ?_⟩
 exact Fr.alloc (Fr.alloc (Fr.alloc (Fr.refl _) _) _) _
def encI (shift plus v : Int) : Int := IntKind.u64.wrap (IntKind.i64.wrap (v - plus) / 2 ^ shift.toNat)
set_option maxHeartbeats 3200000 in
set_option maxRecDepth 100000 in
theorem encoded_any {w : World} (b o : Nat) (shift plus v : Int) (hs : 0 ≤ shift) (hs2 : shift < 64) (h2 : w.cell? ⟨b, o + 2, none⟩ = some (.int .i64 shift)) (h3 : w.cell? ⟨b, o + 3, none⟩ = some (.int .i64 plus)) :
   Calls Tryz.prog 33 #[.pointer (some ⟨b, o, none⟩), .int .i64 v] w fun e w' => e = .returned (.int .u64 (encI shift plus v)) ∧ Fr w w' := by
 have zb := lt_of_cell h2
 unfold encI
 obtain ⟨d, hd⟩ : ∃ d, IntKind.i64.wrap (v - plus) = d := ⟨_, rfl⟩
 rw [hd]
 go_enter Tryz.func33, Tryz.ntmps33
 go_wp2_with fail
 go_quiet (fail)
 go_wp2
 go_ret
 exact ⟨rfl, Fr.drewN (Fr.refl _) _⟩
end Go.Proofs.YtdipnhghdajplaaGreatDoor
