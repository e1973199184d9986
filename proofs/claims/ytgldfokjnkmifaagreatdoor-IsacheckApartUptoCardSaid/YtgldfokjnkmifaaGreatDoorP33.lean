/- Where a form's bits lie: lay. The layouts that the search for a clash keeps: as plain functions, and in memory. -/
import Derived.Test.YtgldfokjnkmifaaGreatDoorP32
namespace Go.Proofs.YtgldfokjnkmifaaGreatDoor
open Go.RowKit
set_option linter.unusedSimpArgs false
set_option linter.unusedVariables false

theorem set5L (wr : World) (b : Nat) (v0 v1 v2 v3 v4 : Value) : Below b wr (((((wr.setCell ⟨b, 0, none⟩ v0).setCell ⟨b, 1, none⟩ v1).setCell ⟨b, 2, none⟩ v2).setCell ⟨b, 3, none⟩ v3).setCell ⟨b, 4, none⟩ v4) ∧ (∀ c, c ≠ b → (((((wr.setCell ⟨b, 0, none⟩ v0).setCell ⟨b, 1, none⟩ v1).setCell ⟨b, 2, none⟩ v2).setCell ⟨b, 3, none⟩ v3).setCell ⟨b, 4, none⟩ v4).heap[c]? = wr.heap[c]?) :=
  ⟨Below.setCell (Below.setCell (Below.setCell (Below.setCell (Below.setCell (Below.refl _ _) (Nat.le_refl b) _) (Nat.le_refl b) _) (Nat.le_refl b) _) (Nat.le_refl b) _) (Nat.le_refl b) _,
    fun c h => (Below.heap_setCell _ _ _ c h).trans ((Below.heap_setCell _ _ _ c h).trans ((Below.heap_setCell _ _ _ c h).trans ((Below.heap_setCell _ _ _ c h).trans (Below.heap_setCell _ _ _ c h))))⟩
theorem cell_same {wr w' : World} {b o : Nat} {v : Value} (e : w'.heap[b]? = wr.heap[b]?) (h : wr.cell? ⟨b, o, none⟩ = some v) : w'.cell? ⟨b, o, none⟩ = some v := (cell_of_heap e).trans h
theorem LayAt.same {lb base oc : Nat} {wr w' : World} {O : Option Addr} {os : List Od} {L : Ly} (h : LayAt lb base wr O oc os L) (hs : wr.heap.size ≤ w'.heap.size) (k : ∀ b, lb ≤ b → w'.heap[b]? = wr.heap[b]?) : LayAt lb base w' O oc os L := by
  have hl := h.lb_
  refine ⟨fun i v hv => cell_same (k lb (Nat.le_refl _)) (h.blk i v hv), fun i => (froz_heap (k lb (Nat.le_refl _))).trans (h.free i), h.len, fun i o ho => ?_, fun i o ho => ?_, fun o ho => ⟨(h.old o ho).1, Nat.lt_of_lt_of_le (h.old o ho).2 hs⟩, h.apart, hl⟩
  · obtain ⟨ob, e, hb, hn, hc⟩ := h.row i o ho
    exact ⟨ob, e, hb, hn, fun j v hv => cell_same (k ob (by omega)) (hc j v hv)⟩
  · obtain ⟨l, e, hl, hc, hf⟩ := h.ops i o ho
    have hg := h.old o (List.mem_of_getElem? ho)
    exact ⟨l, e, hl, fun j v hv => cell_same (k o.g (by omega)) (hc j v hv), fun j => (froz_heap (k o.g (by omega))).trans (hf j)⟩
theorem lay_end {D : Ds} {args : List Int} {n oc : Nat} {w0 w W3 wr w' : World} {os : List Od} {O : Option Addr} {L : Ly} (hR : LayR D W3 n os O oc L wr) (hX : ∀ i o, os[i]? = some o → OdX D args w0 i o) (hk : Fr w0 w) (h3 : Fr w W3) (hn : w.heap.size = n) (hs : Below (n + 1 + 1) wr w' ∧ ∀ c, c ≠ n + 1 + 1 → w'.heap[c]? = wr.heap[c]?) :
    ∃ O' oc', (Ending.returned (.agg (lyC L O oc))) = .returned (.agg (lyC L O' oc')) ∧ Fr w w' ∧ LyOk D L ∧ ∀ w'' : World, (∀ b, (b < w0.heap.size ∨ w.heap.size ≤ b) → b < w'.heap.size → w''.heap[b]? = w'.heap[b]?) → RowOf OpAt 8 w'' O' L.ops := by
  have hf : Fr w w' := Below.trans (h3.call hR.fr) (Below.mono hs.1 (by omega))
  exact ⟨O, oc, rfl, hf, hR.ok, LayAt.done (hR.lay.same hs.1.size fun b hb => hs.2 b (by omega)) hX (hk.call hf) (by omega)⟩
theorem l15_keep {wx : World} {pb n : Nat} {x0 x1 x2 x3 o : Value} (h : BlkAt wx pb [x0, x1, x2, x3]) (h1 : wx.cell? ⟨n, 1, none⟩ = some o) : (wx.cell? ⟨pb, 0, none⟩ = some x0 ∧ wx.cell? ⟨pb, 1, none⟩ = some x1 ∧ wx.cell? ⟨pb, 2, none⟩ = some x2 ∧ wx.cell? ⟨pb, 3, none⟩ = some x3) ∧ wx.cell? ⟨n, 1, none⟩ = some o :=
  ⟨⟨h 0 _ rfl, h 1 _ rfl, h 2 _ rfl, h 3 _ rfl⟩, h1⟩
theorem l15_box {wr W w' : World} {pb : Nat} {l : List Value} (h : BlkAt wr pb l) (e : w'.heap[pb]? = W.heap[pb]?) (k : W.heap[pb]? = wr.heap[pb]?) : BlkAt w' pb l := fun i v hv => (cell_of_heap (e.trans k)).trans (h i v hv)
theorem l15_cell {wr W w' : World} {b : Nat} {v : Value} (h : wr.cell? ⟨b, 1, none⟩ = some v) (e : w'.heap[b]? = W.heap[b]?) (k : W.heap[b]? = wr.heap[b]?) : w'.cell? ⟨b, 1, none⟩ = some v := (cell_of_heap (e.trans k)).trans h
set_option maxHeartbeats 25600000 in
set_option maxRecDepth 100000 in
theorem lay_any {w0 w : World} {D : Ds} {v : Array Value} (hD : DescAt w0 D v) (hk : Fr w0 w) (fn fs : ByteArray) (Aa Bp Cs : Option Addr) (args : List Int) (pcs : List Pc) (ac bc2 cl cc2 : Nat) (hA : RowOf ArgS 2 w Aa args) (hP : RowOf PcAt 4 w Bp pcs) (hL : Light pcs) (hn : patN D args pcs ≠ 0) :
    Calls Tryz.prog 80 #[.agg v, .agg #[.string fn, .string fs, .slice Aa args.length ac, .slice Bp pcs.length bc2, .slice Cs cl cc2]] w fun e w' => ∃ O oc, e = .returned (.agg (lyC (layD D args pcs) O oc)) ∧ Fr w w' ∧ LyOk D (layD D args pcs) ∧
      ∀ w'' : World, (∀ b, (b < w0.heap.size ∨ w.heap.size ≤ b) → b < w'.heap.size → w''.heap[b]? = w'.heap[b]?) → RowOf OpAt 8 w'' O (layD D args pcs).ops := by
  have hop := (pat_sum hn).1
  have HSUM := Lib.hid (pat_sum hn)
  obtain ⟨T, hT⟩ : ∃ T, layD D args pcs = T := ⟨_, rfl⟩
  rw [hT]
  have HT := Lib.hid hT
  have HD := Lib.hid hD
  have HK := Lib.hid hk
  have HPR := Lib.hid hP
  have HLT := Lib.hid hL
  unfold opsB at hop
  rw [Bool.and_eq_true] at hop
  have hall : args.all (clsAtB D) = true := hop.2
  have h6 : args.length ≤ 6 := of_decide_eq_true hop.1
  have HPT := Lib.hid (fun (w1 : World) (k : Fr w w1) => pat_any (hD.fr (hk.call k)) fn fs Aa Bp Cs args pcs ac bc2 cl cc2 (hA.fr fun _ _ _ x => x.fr k) (hP.fr fun _ _ _ x => x.fr k) hL)
  obtain ⟨s0, Fa, Ba, Ga, Ca, Ma, Ra, Ua, Xa, Ka, Na, Pa, fc, bc, gc, cc, mc, rc, uc, xc, kc, nl, nc, pc, rfl, h1, h2, h3, h4, h5, h6', h7, h8, h9⟩ := hD
  have HPB := Lib.hid (fun (w1 : World) (k : Fr w w1) (p : Pc) (hp : p.lit.size ≤ maxLen) => pieceBits_any (HD.out.fr (HK.out.call k)) fn fs Aa Bp Cs args ac pcs.length bc2 cl cc2 (hA.fr fun _ _ _ x => x.fr k) p.lit hp hall p.arg p.hi p.lo)
  have HC := Lib.hid h3
  have HA := Lib.hid hA
  have HALL := Lib.hid hall
  have hpl : pcs.length ≤ 1048576 := hL.many
  clear h1 h2 h3 h4 h5 h6' h7 h8 h9 hA hall hT hk hP hL hn hop
  have hz3 : (((w.alloc (.cells #[.string s0, .int .i64 D.order, .slice Fa D.files.length fc, .slice Ba D.als.length bc, .slice Ga D.nflags gc, .slice Ca D.cls.length cc, .slice Ma D.fms.length mc, .slice Ra D.rels.length rc, .slice Ua D.uses.length uc, .slice Xa D.rxs.length xc, .slice Ka D.mcs.length kc, .slice Na nl nc, .slice Pa D.regs.length pc] 33)).alloc (.cells #[.string fn, .string fs, .slice Aa args.length ac, .slice Bp pcs.length bc2, .slice Cs cl cc2] 43)).alloc (.cells #[.int .u64 0, .int .u64 0, .int .u64 0, .int .u64 0, .slice none 0 0] 180)).heap.size = w.heap.size + 3 := by simp
  have hf3 : Fr w (((w.alloc (.cells #[.string s0, .int .i64 D.order, .slice Fa D.files.length fc, .slice Ba D.als.length bc, .slice Ga D.nflags gc, .slice Ca D.cls.length cc, .slice Ma D.fms.length mc, .slice Ra D.rels.length rc, .slice Ua D.uses.length uc, .slice Xa D.rxs.length xc, .slice Ka D.mcs.length kc, .slice Na nl nc, .slice Pa D.regs.length pc] 33)).alloc (.cells #[.string fn, .string fs, .slice Aa args.length ac, .slice Bp pcs.length bc2, .slice Cs cl cc2] 43)).alloc (.cells #[.int .u64 0, .int .u64 0, .int .u64 0, .int .u64 0, .slice none 0 0] 180)) := Fr.alloc (Fr.alloc (Fr.alloc (Fr.refl w) _) _) _
  have hdv : BlkAt (((w.alloc (.cells #[.string s0, .int .i64 D.order, .slice Fa D.files.length fc, .slice Ba D.als.length bc, .slice Ga D.nflags gc, .slice Ca D.cls.length cc, .slice Ma D.fms.length mc, .slice Ra D.rels.length rc, .slice Ua D.uses.length uc, .slice Xa D.rxs.length xc, .slice Ka D.mcs.length kc, .slice Na nl nc, .slice Pa D.regs.length pc] 33)).alloc (.cells #[.string fn, .string fs, .slice Aa args.length ac, .slice Bp pcs.length bc2, .slice Cs cl cc2] 43)).alloc (.cells #[.int .u64 0, .int .u64 0, .int .u64 0, .int .u64 0, .slice none 0 0] 180)) w.heap.size [.string s0, .int .i64 D.order, .slice Fa D.files.length fc, .slice Ba D.als.length bc, .slice Ga D.nflags gc, .slice Ca D.cls.length cc, .slice Ma D.fms.length mc, .slice Ra D.rels.length rc, .slice Ua D.uses.length uc, .slice Xa D.rxs.length xc, .slice Ka D.mcs.length kc, .slice Na nl nc, .slice Pa D.regs.length pc] := BlkAt.fr BlkAt.alloc (Fr.alloc (Fr.alloc (Fr.refl _) _) _)
  have hfv : BlkAt (((w.alloc (.cells #[.string s0, .int .i64 D.order, .slice Fa D.files.length fc, .slice Ba D.als.length bc, .slice Ga D.nflags gc, .slice Ca D.cls.length cc, .slice Ma D.fms.length mc, .slice Ra D.rels.length rc, .slice Ua D.uses.length uc, .slice Xa D.rxs.length xc, .slice Ka D.mcs.length kc, .slice Na nl nc, .slice Pa D.regs.length pc] 33)).alloc (.cells #[.string fn, .string fs, .slice Aa args.length ac, .slice Bp pcs.length bc2, .slice Cs cl cc2] 43)).alloc (.cells #[.int .u64 0, .int .u64 0, .int .u64 0, .int .u64 0, .slice none 0 0] 180)) (w.heap.size + 1) [.string fn, .string fs, .slice Aa args.length ac, .slice Bp pcs.length bc2, .slice Cs cl cc2] := by
    have := BlkAt.fr (BlkAt.alloc (w := w.alloc (.cells #[.string s0, .int .i64 D.order, .slice Fa D.files.length fc, .slice Ba D.als.length bc, .slice Ga D.nflags gc, .slice Ca D.cls.length cc, .slice Ma D.fms.length mc, .slice Ra D.rels.length rc, .slice Ua D.uses.length uc, .slice Xa D.rxs.length xc, .slice Ka D.mcs.length kc, .slice Na nl nc, .slice Pa D.regs.length pc] 33)) (t := 43) (cs := #[.string fn, .string fs, .slice Aa args.length ac, .slice Bp pcs.length bc2, .slice Cs cl cc2])) (Fr.alloc (Fr.refl _) (.cells #[.int .u64 0, .int .u64 0, .int .u64 0, .int .u64 0, .slice none 0 0] 180))
    simpa using this
  have hzv : BlkAt (((w.alloc (.cells #[.string s0, .int .i64 D.order, .slice Fa D.files.length fc, .slice Ba D.als.length bc, .slice Ga D.nflags gc, .slice Ca D.cls.length cc, .slice Ma D.fms.length mc, .slice Ra D.rels.length rc, .slice Ua D.uses.length uc, .slice Xa D.rxs.length xc, .slice Ka D.mcs.length kc, .slice Na nl nc, .slice Pa D.regs.length pc] 33)).alloc (.cells #[.string fn, .string fs, .slice Aa args.length ac, .slice Bp pcs.length bc2, .slice Cs cl cc2] 43)).alloc (.cells #[.int .u64 0, .int .u64 0, .int .u64 0, .int .u64 0, .slice none 0 0] 180)) (w.heap.size + 2) [.int .u64 0, .int .u64 0, .int .u64 0, .int .u64 0, .slice none 0 0] := by
    have := BlkAt.alloc (w := (w.alloc (.cells #[.string s0, .int .i64 D.order, .slice Fa D.files.length fc, .slice Ba D.als.length bc, .slice Ga D.nflags gc, .slice Ca D.cls.length cc, .slice Ma D.fms.length mc, .slice Ra D.rels.length rc, .slice Ua D.uses.length uc, .slice Xa D.rxs.length xc, .slice Ka D.mcs.length kc, .slice Na nl nc, .slice Pa D.regs.length pc] 33)).alloc (.cells #[.string fn, .string fs, .slice Aa args.length ac, .slice Bp pcs.length bc2, .slice Cs cl cc2] 43)) (t := 180) (cs := #[.int .u64 0, .int .u64 0, .int .u64 0, .int .u64 0, .slice none 0 0])
    simpa using this
  have hzf : ∀ k, (((w.alloc (.cells #[.string s0, .int .i64 D.order, .slice Fa D.files.length fc, .slice Ba D.als.length bc, .slice Ga D.nflags gc, .slice Ca D.cls.length cc, .slice Ma D.fms.length mc, .slice Ra D.rels.length rc, .slice Ua D.uses.length uc, .slice Xa D.rxs.length xc, .slice Ka D.mcs.length kc, .slice Na nl nc, .slice Pa D.regs.length pc] 33)).alloc (.cells #[.string fn, .string fs, .slice Aa args.length ac, .slice Bp pcs.length bc2, .slice Cs cl cc2] 43)).alloc (.cells #[.int .u64 0, .int .u64 0, .int .u64 0, .int .u64 0, .slice none 0 0] 180)).frozen? ⟨w.heap.size + 2, k, none⟩ = false := fun k => World.frozen?_alloc_at _ _ _ _ (by simp)
  go_enter Tryz.func80, Tryz.ntmps80
  go_wp2
  generalize hW3 : World.alloc (World.alloc (World.alloc w _) _) _ = W3 at *
  have HF3 := Lib.hid hf3
  have HDV := Lib.hid hdv
  have HFV := Lib.hid hfv
  have HZV := Lib.hid hzv
  have HZF := Lib.hid hzf
  have HZ3 := Lib.hid hz3
  clear hf3 hdv hfv hzv hzf hW3
  obtain ⟨n, hn0⟩ : ∃ n, w.heap.size = n := ⟨_, rfl⟩
  have HN0 := Lib.hid hn0
  rw [hn0] at HDV HFV HZV HZF HZ3 hz3 ⊢
  (try simp only [hn0, hz3])
  clear hn0
  go_loopw [17] (fun i wr => RelLay1 D args w0 W3 n i wr) (fun i _ => args.length - (intOf i).toNat)
  case atStart =>
    refine ⟨[], none, 0, Nat.zero_le _, rfl, Fr.alloc (Fr.refl _) _, ⟨?_, fun k => ?_, World.ownsRow_nil _ _ _ _, by simp, by simp⟩, by simp; omega, by simp⟩
    · have := BlkAt.alloc (w := W3) (t := 180) (cs := #[.int .u64 0, .int .u64 0, .int .u64 0, .int .u64 0, .slice none 0 0])
      rw [hz3] at this
      simpa using this
    · exact World.frozen?_alloc_at _ _ _ _ (by simp [hz3])
  case round =>
    obtain ⟨os, O, oc, hj, rfl, hf, hOp, hsz, hX⟩ := hrel
    have HFr := Lib.hid hf
    have HOP := Lib.hid hOp
    have HX := Lib.hid hX
    have a5 := (HDV.out.fr hf) 5 _ rfl
    have l4 := hOp.blk 4 _ rfl
    clear hOp hX
    obtain ⟨j, hj0⟩ : ∃ j, os.length = j := ⟨_, rfl⟩
    have HJ := Lib.hid hj0
    rw [hj0] at hj l4
    simp only [hj0]
    clear hj0
    by_cases hlt : j < args.length
    · have hji : (j : Int) < (args.length : Int) := by omega
      obtain ⟨bk, ok, rfl, hx⟩ := (HA.out.fr fun _ _ _ x => x.fr (HF3.out.call hf)).at hlt
      obtain ⟨c, e, hc, hcl, _, hb1, hb64⟩ := args_at HALL.out hlt
      rw [Nat.mul_comm 2 j, e] at hx
      obtain ⟨bq, oq, rfl, hy⟩ := HC.out.at hc
      have HCC := Lib.hid (show D.cls[c]? = some D.cls[c] from List.getElem?_eq_getElem hc)
      have HE := Lib.hid (show args[j]? = some (c : Int) by rw [List.getElem?_eq_getElem hlt, e])
      rw [Nat.mul_comm 7 c] at hy
      obtain ⟨an, x0, _, x1⟩ := hx
      generalize D.cls[c] = k at *
      obtain ⟨kind, file, bits, shift, plus, ex⟩ := k
      obtain ⟨n0, E, ec, y0, r1, y1, r2, y2, r3, y3, r4, y4, r5, y5, r6, r7, y6, hex⟩ := hy
      have HR := Lib.hid (And.intro r1 (And.intro r2 (And.intro r3 (And.intro r4 (And.intro r5 (And.intro r6 r7))))))
      have HEX := Lib.hid hex
      clear r1 r2 r3 r4 r5 r6 r7
      have HCL := Lib.hid hcl
      clear hcl
      simp only at y0 y1 y2 y3 y4 y5 y6 hb1 hb64
      have HKF := Lib.hid (HK.out.call (HF3.out.call hf))
      have y0 := HKF.out.get y0; have y1 := HKF.out.get y1; have y2 := HKF.out.get y2; have y3 := HKF.out.get y3; have y4 := HKF.out.get y4; have y5 := HKF.out.get y5; have y6 := HKF.out.get y6
      have hci : (c : Int) < (D.cls.length : Int) := by omega
      obtain ⟨bn, rfl⟩ : ∃ bn : Nat, bits = (bn : Int) := ⟨bits.toNat, by omega⟩
      have zb := lt_of_cell x0
      have zq := lt_of_cell y0
      have zl := lt_of_cell l4
      have za := lt_of_cell a5
      have HF6 := Lib.hid (show Fr wr ((wr.alloc (.cells #[.string an, .int .i64 (c : Int)] 55)).alloc (.cells #[.string n0, .int .i64 kind, .int .i64 file, .int .i64 (bn : Int), .int .i64 shift, .int .i64 plus, .slice E ex.length ec] 64)) from Fr.alloc (Fr.alloc (Fr.refl wr) _) _)
      have HK6 := Lib.hid (show BlkAt ((wr.alloc (.cells #[.string an, .int .i64 (c : Int)] 55)).alloc (.cells #[.string n0, .int .i64 kind, .int .i64 file, .int .i64 (bn : Int), .int .i64 shift, .int .i64 plus, .slice E ex.length ec] 64)) (wr.heap.size + 1) [.string n0, .int .i64 kind, .int .i64 file, .int .i64 (bn : Int), .int .i64 shift, .int .i64 plus, .slice E ex.length ec] from by
        have := BlkAt.alloc (w := wr.alloc (.cells #[.string an, .int .i64 (c : Int)] 55)) (t := 64) (cs := #[.string n0, .int .i64 kind, .int .i64 file, .int .i64 (bn : Int), .int .i64 shift, .int .i64 plus, .slice E ex.length ec])
        simpa using this)
      have HZ6 := Lib.hid (show ((wr.alloc (.cells #[.string an, .int .i64 (c : Int)] 55)).alloc (.cells #[.string n0, .int .i64 kind, .int .i64 file, .int .i64 (bn : Int), .int .i64 shift, .int .i64 plus, .slice E ex.length ec] 64)).heap.size = wr.heap.size + 2 by simp)
      clear hex hf hj
      go_wp2
      generalize World.alloc (World.alloc wr _) _ = W6 at *
      have hj9 := HJ.out
      have hop := HOP.out
      refine lay6 _ _ _ _ _ _ _ _ _ _ _ _ _ _ _ _ _ _ _ _ _ _ _ _ _ _ _ _ _ _ _ _ _ _ _ _ _ _ _ _ _ _ _ _ _ _ _ _ _ _ _ _ _ _ _ _ _ _ _ _ _ _ _ _ _ _ _ _ (n + 3) (wr.heap.size + 1) bn n0 kind file shift plus E O ex.length ec j oc (by omega) (HF6.out.get l4) HK6.out (n + 4) (flatO os) ?own (by omega) (by omega) ?base ?frz ?end_
      case own => subst hj9; exact ownsRow_fr hop.row HF6.out
      case base => rw [HZ6.out]; omega
      case frz => exact HF6.out.free l4 (hop.free 4)
      case end_ =>
        intro g cap w' x27 x28 x29 x30 x31 x32 x33 x34 x35 x36 hg
        have HN := Lib.hid (OpsAt.next (od := ⟨⟨kind, file, bn, shift, plus, ex⟩, n0, E, ec, W6.heap.size⟩) hop HF6.out rfl (bn := bn) (by simp) (by omega) hsz (by subst hj9; exact hg))
        have HG := Lib.hid hg
        have k7 := Lib.hid (HF6.out.call (Fr.drew (Fr.alloc (Fr.alloc (Fr.refl W6) (.cells (madeCells #[.int .i64 0] bn) 3)) (.cells #[.string n0, .int .i64 kind, .int .i64 file, .int .i64 (bn : Int), .int .i64 shift, .int .i64 plus, .slice E ex.length ec, .slice (some ⟨W6.heap.size, 0, none⟩) bn bn] 263))))
        have hne : ∀ b, b < n + 4 → (Value.slice O j oc).ownBlock ≠ some b := fun b hb e => by
          subst hj9
          have := (World.ownsRow.lt hop.row b e).1
          omega
        have HNE := Lib.hid hne
        clear hop hne
        go_wp2
        go_roundw
        case rel =>
          subst hj9
          have hl : (os ++ [(⟨⟨kind, file, bn, shift, plus, ex⟩, n0, E, ec, W6.heap.size⟩ : Od)]).length = os.length + 1 := by simp
          refine ⟨os ++ [⟨⟨kind, file, bn, shift, plus, ex⟩, n0, E, ec, W6.heap.size⟩], some ⟨g, 0, none⟩, cap, by rw [hl]; omega, by rw [hl]; go_num, ?_, HN.out, ?_, ?_⟩
          · exact Fr.set (Fr.grown (HFr.out.call k7.out) HG.out.2.1 (fun k e => by
              rcases Nat.lt_or_ge k W3.heap.size with h | h
              · exact absurd e (HNE.out k (by omega))
              · exact h)) (by simp only; omega) _
          · have := HG.out.2.1.size
            have := k7.out.size
            simp
            omega
          · intro i o hio
            rcases Nat.lt_or_ge i os.length with hi | hi
            · rw [List.getElem?_append_left hi] at hio
              exact HX.out i o hio
            · rw [List.getElem?_append_right hi] at hio
              obtain ⟨hi0, rfl⟩ : i - os.length = 0 ∧ _ = o := by
                match hh : i - os.length, hio with
                | 0, hio => exact ⟨rfl, Option.some.inj hio⟩
              obtain rfl : i = os.length := by omega
              exact ⟨⟨c, HE.out, HCC.out, HCL.out, hb1, hb64⟩, HR.out, HEX.out⟩
        case measure => simp [intOf]; omega
    · obtain rfl : j = args.length := by omega
      have HST := Lib.hid (lay0_start HX.out HJ.out)
      have HLA := Lib.hid (LayAt.start HOP.out (by omega) ⟨rfl, rfl, rfl, rfl⟩ HST.out.1 HST.out.2)
      have HR0 := Lib.hid (show LayR D W3 n os O oc (lay0 D args) wr from ⟨HFr.out, HLA.out, lay0_ok h6 HALL.out⟩)
      have HWR := Lib.hid (HF3.out.call hf)
      have hzr := hf.size
      clear hj a5 l4 HOP HLA HST
      have d0 := HDV.out.fr hf 0 _ rfl; have d1 := HDV.out.fr hf 1 _ rfl; have d2 := HDV.out.fr hf 2 _ rfl; have d3 := HDV.out.fr hf 3 _ rfl; have d4 := HDV.out.fr hf 4 _ rfl; have d5 := HDV.out.fr hf 5 _ rfl; have d6 := HDV.out.fr hf 6 _ rfl; have d7 := HDV.out.fr hf 7 _ rfl; have d8 := HDV.out.fr hf 8 _ rfl; have d9 := HDV.out.fr hf 9 _ rfl; have d10 := HDV.out.fr hf 10 _ rfl; have d11 := HDV.out.fr hf 11 _ rfl; have d12 := HDV.out.fr hf 12 _ rfl
      have f0 := HFV.out.fr hf 0 _ rfl; have f1 := HFV.out.fr hf 1 _ rfl; have f2 := HFV.out.fr hf 2 _ rfl; have f3 := HFV.out.fr hf 3 _ rfl; have f4 := HFV.out.fr hf 4 _ rfl
      have zd := lt_of_cell d0
      have zf := lt_of_cell f0
      clear hf
      go_wp2_with fail
      refine (HPT.out _ HWR.out).mono ?_
      rintro e w4 ⟨rfl, hf4⟩
      have HR4 := Lib.hid (HR0.out.frame hf4)
      have HW4 := Lib.hid (HWR.out.call hf4)
      have hz4 : n + 4 ≤ w4.heap.size := by have := hf4.size; omega
      have f3 := HFV.out.fr (HFr.out.call hf4) 3 _ rfl
      clear d0 d1 d2 d3 d4 d5 d6 d7 d8 d9 d10 d11 d12 f0 f1 f2 f4
      clear hf4 HR0 HWR HFr
      obtain ⟨bits, hbits⟩ : ∃ bits, patN D args pcs = bits := ⟨_, rfl⟩
      rw [hbits] at HSUM ⊢
      have HBI := Lib.hid hbits
      clear hbits
      have hb120 : bits ≤ 120 := HSUM.out.2.2.2.2
      go_wp2_with fail
      clear hz4
      go_loopw [44, 10] (fun i nv wr => RelLay2 D args pcs bits T W3 n os O oc i nv wr) (fun i _ _ => pcs.length - (intOf i).toNat)
      case atStart =>
        refine ⟨0, 0, lay0 D args, Nat.zero_le _, rfl, rfl, HR4.out, ?_, ?_⟩
        · rw [List.drop_zero, ← HT.out]; unfold layD; rw [HBI.out]
        · rw [List.drop_zero]; have := HSUM.out.2.1; omega
      case round =>
        obtain ⟨j, m, L, hj, rfl, rfl, hR, hTT, hS⟩ := hrel
        have HR := Lib.hid hR
        clear hR
        by_cases hlt : j < pcs.length
        · obtain ⟨bp, op, rfl, hx⟩ := (HPR.out.fr fun _ _ _ x => x.fr (HF3.out.call HR.out.fr)).at hlt
          rw [Nat.mul_comm 4 j] at hx
          have HDR : pcs.drop j = pcs[j] :: pcs.drop (j + 1) := List.drop_eq_getElem_cons hlt
          rw [HDR] at hTT hS
          have hpn := HSUM.out.2.2.1 _ (List.getElem_mem hlt)
          clear HDR
          generalize pcs[j] = p at *
          have HPBp := Lib.hid (fun (w1 : World) (k : Fr w w1) => HPB.out w1 k p hx.1)
          have HPU := Lib.hid (fun (w1 : World) (L : Ly) (b q : Nat) (hl : LayAt (n + 3) (n + 4) w1 O oc os L) (hk : LyOk D L) (hb : b < pcN D args p) (hq : q < 128) => put_any hl hk HX.out HJ.out HALL.out hb hq hx.1)
          obtain ⟨lit, ar, hi, lo⟩ := p
          obtain ⟨w0', g0, w1', g1, w2', g2, w3', g3⟩ := hx
          simp only at g0 g1 g2 g3 HPBp HPU
          have HTT := Lib.hid hTT
          have HSS := Lib.hid hS
          have hji : (j : Int) < (pcs.length : Int) := by omega
          have zp := lt_of_cell g0
          have HBX := Lib.hid (BlkAt.alloc (w := wr) (t := 210) (cs := #[.string lit, .int .i64 ar, .int .i64 hi, .int .i64 lo]))
          have HFX := Lib.hid (Fr.alloc (Fr.refl wr) (.cells #[.string lit, .int .i64 ar, .int .i64 hi, .int .i64 lo] 210))
          have HNE := Lib.hid (fun o ho => Nat.ne_of_lt (HR.out.lay.old o ho).2)
          have HLB := Lib.hid (layAt_lb HR.out.lay)
          have d0 := HDV.out.fr HR.out.fr 0 _ rfl; have d1 := HDV.out.fr HR.out.fr 1 _ rfl; have d2 := HDV.out.fr HR.out.fr 2 _ rfl; have d3 := HDV.out.fr HR.out.fr 3 _ rfl; have d4 := HDV.out.fr HR.out.fr 4 _ rfl; have d5 := HDV.out.fr HR.out.fr 5 _ rfl; have d6 := HDV.out.fr HR.out.fr 6 _ rfl; have d7 := HDV.out.fr HR.out.fr 7 _ rfl; have d8 := HDV.out.fr HR.out.fr 8 _ rfl; have d9 := HDV.out.fr HR.out.fr 9 _ rfl; have d10 := HDV.out.fr HR.out.fr 10 _ rfl; have d11 := HDV.out.fr HR.out.fr 11 _ rfl; have d12 := HDV.out.fr HR.out.fr 12 _ rfl
          have f0 := HFV.out.fr HR.out.fr 0 _ rfl; have f1 := HFV.out.fr HR.out.fr 1 _ rfl; have f2 := HFV.out.fr HR.out.fr 2 _ rfl; have f3 := HFV.out.fr HR.out.fr 3 _ rfl; have f4 := HFV.out.fr HR.out.fr 4 _ rfl
          have zd := lt_of_cell d0
          have zf := lt_of_cell f0
          clear hTT hS hj w0' w1' w2' w3'
          obtain ⟨N, hN⟩ : ∃ N, pcN D args ⟨lit, ar, hi, lo⟩ = N := ⟨_, rfl⟩
          have HN := Lib.hid hN
          rw [hN] at HPBp HPU hpn
          clear hN
          have hNb : N ≤ 120 := by
            have := HSS.out
            simp only [sumN, List.map_cons, List.sum_cons] at this
            have := HN.out
            omega
          have hmb : m ≤ 120 := by have := HSS.out; omega
          have HT5 := Lib.hid (show layL D.order bits D args (pcs.drop (j + 1)) (m + N) (layP D.order bits ⟨lit, ar, hi, lo⟩ N m L) = T by rw [← HN.out]; exact HTT.out)
          have HS5 := Lib.hid (show m + N + sumN D args (pcs.drop (j + 1)) = bits by
            have := HSS.out
            simp only [sumN, List.map_cons, List.sum_cons] at this ⊢
            have := HN.out
            omega)
          clear HTT HSS
          go_wp2_with fail
          refine (HPBp.out _ (HF3.out.call (HR.out.fr.call HFX.out))).mono ?_
          rintro e w5 ⟨rfl, hf5⟩
          have HR5 := Lib.hid (HR.out.frame (HFX.out.call hf5))
          have HB5 := Lib.hid (HBX.out.fr hf5)
          have HZ5 := Lib.hid (show wr.heap.size < w5.heap.size by have := hf5.size; simp at this; omega)
          clear hf5 d0 d1 d2 d3 d4 d5 d6 d7 d8 d9 d10 d11 d12 f0 f1 f2 f4 f3 g0 g1 g2 g3 zd zf zp HBX HFX HPBp
          go_wp2_with fail
          generalize wr.heap.size = pb at *
          go_loopw [13, 10] (fun bv nv w' => RelLay3 D args pcs bits T W3 n os O oc j N ⟨lit, ar, hi, lo⟩ pb [.string lit, .int .i64 ar, .int .i64 hi, .int .i64 lo] bv nv w') (fun b _ _ => (intOf b + 1).toNat)
          case atStart => exact ⟨N, m, L, rfl, rfl, Nat.le_refl _, HR5.out, HT5.out, HS5.out, HB5.out⟩
          case round =>
            obtain ⟨c, m', L', rfl, rfl, hc, hR', hT', hS', hB'⟩ := hrel
            have HR7 := Lib.hid hR'
            have HT7 := Lib.hid hT'
            have HS7 := Lib.hid hS'
            have HB7 := Lib.hid hB'
            clear hR' hT' hS' hB'
            rcases c with _ | b
            · rw [show (((0 : Nat) : Int) - 1) = -1 from rfl]
              go_wp2
              go_roundw
              case rel => exact ⟨j + 1, m', L', by omega, by go_num, rfl, HR7.out, HT7.out, by have := HS7.out; omega⟩
              case measure => simp [intOf]; omega
            · rw [show (((b + 1 : Nat) : Int) - 1) = (b : Int) by omega]
              have hb0 : (0 : Int) ≤ (b : Int) := by omega
              have hm7 : m' < bits := by have := HS7.out; omega
              have hq7 : plcN D.order m' bits < 128 := Nat.lt_trans (plcN_lt hm7 hb120 HSUM.out.2.2.2.1) (by decide)
              have HPL := Lib.hid (fun w => plcN_I (o := D.order) hm7 ▸ placeOf_any D.order m' bits (by omega) (by omega) w)
              have HP7 := Lib.hid (fun w1 (k : LayAt (n + 3) (n + 4) w1 O oc os L') => HPU.out w1 L' b (plcN D.order m' bits) k HR7.out.ok (by omega) hq7)
              have d1 := HDV.out.fr HR7.out.fr 1 _ rfl
              have b0 := HB7.out 0 _ rfl
              have b1 := HB7.out 1 _ rfl
              have b2 := HB7.out 2 _ rfl
              have b3 := HB7.out 3 _ rfl
              have zd := lt_of_cell d1
              have zb := lt_of_cell b0
              have HD1 := Lib.hid d1
              have HQ7 := Lib.hid hq7
              clear hq7
              generalize hq : plcN D.order m' bits = q at *
              have HQ := Lib.hid hq
              clear hq
              go_wp2_with fail
              go_region_held3 (fun wx => (wx.cell? ⟨pb, 0, none⟩ = some (.string lit) ∧ wx.cell? ⟨pb, 1, none⟩ = some (.int .i64 ar) ∧ wx.cell? ⟨pb, 2, none⟩ = some (.int .i64 hi) ∧ wx.cell? ⟨pb, 3, none⟩ = some (.int .i64 lo)) ∧ wx.cell? ⟨n, 1, none⟩ = some (.int .i64 D.order)) (first
                | exact l15_keep HB7.out HD1.out
                | exact l15_keep (HB7.out.fr (Fr.drew (Fr.refl _))) ((Fr.drew (Fr.refl _)).get HD1.out)
                | exact l15_keep HB8.out HD8.out) (first
                | (go_at_call 160; refine (HPL.out _).mono ?_; rintro e w8 ⟨rfl, rfl⟩)
                | (go_at_call 159; refine (HP7.out _ (by first | exact HR7.out.lay | exact HR7.out.lay.fr (Fr.drew (Fr.refl _)))).mono ?_; rintro e w8 ⟨rfl, hb8, hl8, hk8⟩; have HB8 := Lib.hid (l15_box HB7.out (by first | exact hk8 pb (by simpa using zb) (Nat.ne_of_gt HLB.out) HNE.out) rfl); have HD8 := Lib.hid (l15_cell HD1.out (hb8.block n (by omega)) rfl); have HR8 := Lib.hid (HR7.out.to HZ3.out (Below.trans (by first | exact Below.drew (Below.refl _ _) | exact Below.refl _ _) hb8) hl8 (putL_ok HR7.out.ok _ _ HQ7.out)); clear hb8 hl8 hk8))
              go_wp2
              go_roundw
              case rel => exact ⟨b, m' + 1, putL ⟨lit, ar, hi, lo⟩ b q L', rfl, by go_num, by omega, HR8.out, by rw [show m' + 1 + b = m' + (b + 1) by omega, ← HQ.out]; exact HT7.out, by have := HS7.out; omega, HB8.out⟩
              case measure => simp [intOf]
        · obtain rfl : j = pcs.length := by omega
          rw [List.drop_length] at hTT
          obtain rfl : L = T := hTT
          have c0 := HR.out.lay.blk 0 _ rfl; have c1 := HR.out.lay.blk 1 _ rfl; have c2 := HR.out.lay.blk 2 _ rfl; have c3 := HR.out.lay.blk 3 _ rfl; have c4 := HR.out.lay.blk 4 _ rfl
          have z0 := HZV.out.fr HR.out.fr 0 _ rfl; have z1 := HZV.out.fr HR.out.fr 1 _ rfl; have z2 := HZV.out.fr HR.out.fr 2 _ rfl; have z3 := HZV.out.fr HR.out.fr 3 _ rfl; have z4 := HZV.out.fr HR.out.fr 4 _ rfl
          have zc := lt_of_cell c0
          have zz := lt_of_cell z0
          have y0 := HR.out.fr.free (HZV.out 0 _ rfl) (HZF.out 0); have y1 := HR.out.fr.free (HZV.out 1 _ rfl) (HZF.out 1); have y2 := HR.out.fr.free (HZV.out 2 _ rfl) (HZF.out 2); have y3 := HR.out.fr.free (HZV.out 3 _ rfl) (HZF.out 3); have y4 := HR.out.fr.free (HZV.out 4 _ rfl) (HZF.out 4)
          have HLEN := Lib.hid HR.out.lay.len
          have hol : os.length = L.ops.length := HR.out.lay.len.symm
          rw [hol] at c4
          clear hol hS hj HT HSUM
          go_wp2
          exact bodyPost_ret (v := .agg (lyC L O oc)) (by simp [results, Tryz.results80, go_sem, lyC, *]) rfl (lay_end HR.out HX.out HK.out HF3.out HN0.out (set5L _ (n + 1 + 1) _ _ _ _ _))
end Go.Proofs.YtgldfokjnkmifaaGreatDoor
namespace Go.Proofs.YtgldfokjnkmifaaGreatDoor
open Go.RowKit
set_option linter.unusedSimpArgs false
set_option linter.unusedVariables false

def layF (D : Ds) (f : Fm) : Ly := layD D f.args f.pcs
/-- Isn't a form disjoint from one ahead of it? -/
def clashAt (D : Ds) (n : Nat) : Bool := match D.fms[n]? with
  | none => false
  | some f => !((D.fms.take n).all fun g => apB (layF D g) (layF D f))
/-- The first form that isn't disjoint from one ahead of it. -/
def clashN (D : Ds) : Option Nat := (List.range D.fms.length).find? (clashAt D)
def clV (D : Ds) : Value := match clashN D with
  | none => .tuple #[.int .i64 0, .bool false]
  | some n => .tuple #[.int .i64 (n : Int), .bool true]
theorem clV_no {D : Ds} (h : ∀ m, m < D.fms.length → clashAt D m = false) : clV D = .tuple #[.int .i64 0, .bool false] := by
  have : clashN D = none := List.find?_eq_none.2 fun m hm => by rw [h m (by simpa using hm)]; simp
  unfold clV; rw [this]
theorem find_range {P : Nat → Bool} : ∀ (n j s : Nat), j < n → P (s + j) = true → (∀ m, m < j → P (s + m) = false) → (List.range' s n).find? P = some (s + j)
  | 0, j, s, h, _, _ => by omega
  | n + 1, 0, s, _, hp, _ => by rw [List.range'_succ, List.find?_cons, show P s = true by simpa using hp]; rfl
  | n + 1, j + 1, s, h, hp, hm => by
    rw [List.range'_succ, List.find?_cons, show P s = false by simpa using hm 0 (by omega)]
    have := find_range n j (s + 1) (by omega) (by rw [← hp]; congr 1; omega) (fun m hmj => by have := hm (m + 1) (by omega); rw [← this]; congr 1; omega)
    simp only [this]; congr 1; omega
theorem clV_at {D : Ds} {j : Nat} (hj : j < D.fms.length) (h : ∀ m, m < j → clashAt D m = false) (hc : clashAt D j = true) : clV D = .tuple #[.int .i64 (j : Int), .bool true] := by
  have : clashN D = some j := by
    unfold clashN
    rw [List.range_eq_range']
    have := find_range (P := clashAt D) D.fms.length j 0 hj (by simpa using hc) (fun m hm => by simpa using h m hm)
    simpa using this
  unfold clV; rw [this]

/-- A layout that is kept, and where its operands lie. -/
structure Lk where
  (L : Ly)
  (O : Option Addr)
  (oc : Nat)
def lkC (x : Lk) : List Value := (lyC x.L x.O x.oc).toList
def flatL (ls : List Lk) : List Value := ls.flatMap lkC
theorem flatL_snoc (ls : List Lk) (x : Lk) : flatL (ls ++ [x]) = flatL ls ++ lkC x := by simp [flatL]
theorem flatL_get : ∀ (ls : List Lk) (i : Nat) (o : Lk) (k : Nat) (v : Value), ls[i]? = some o → (lkC o)[k]? = some v → (flatL ls)[i * 5 + k]? = some v
  | [], i, o, k, v, h, _ => by simp at h
  | a :: r, 0, o, k, v, h, hk => by
    obtain rfl : a = o := by simpa using h
    have : k < (lkC a).length := (List.getElem?_eq_some_iff.1 hk).1
    simp only [flatL, List.flatMap_cons, Nat.zero_mul, Nat.zero_add]
    rw [List.getElem?_append_left this]; exact hk
  | a :: r, i + 1, o, k, v, h, hk => by
    have hl : (lkC a).length = 5 := rfl
    simp only [flatL, List.flatMap_cons]
    rw [List.getElem?_append_right (by rw [hl]; omega), hl, show (i + 1) * 5 + k - 5 = i * 5 + k by omega]
    exact flatL_get r i o k v (by simpa using h) hk
/-- What holds in every world to which this one may grow, but for one row. -/
def Stab (wr : World) (row : Option Nat) (X : World → Prop) : Prop := ∀ w', wr.grownBy w' row → X w'
theorem grown_of_fr {w w' : World} (k : Fr w w') (row : Option Nat) : w.grownBy w' row := ⟨k.os, k.tape, k.output, k.size, fun i hi _ => k.block i hi⟩
theorem grown_trans {a b c : World} {row row' : Option Nat} (h : a.grownBy b row) (k : b.grownBy c row') (hr : ∀ i, i < a.heap.size → some i ≠ row → some i ≠ row') : a.grownBy c row :=
  ⟨k.os.trans h.os, k.tape.trans h.tape, k.output.trans h.output, Nat.le_trans h.size k.size, fun i hi hn => (k.block i (Nat.lt_of_lt_of_le hi h.size) (hr i hi hn)).trans (h.block i hi hn)⟩
theorem Stab.fr {wr w' : World} {row : Option Nat} {X : World → Prop} (h : Stab wr row X) (k : Fr wr w') : Stab w' row X := fun w'' g => h w'' (grown_trans (grown_of_fr k row) g fun _ _ h => h)
theorem Stab.grown {wr w' : World} {row row' : Option Nat} {X : World → Prop} (h : Stab wr row X) (g : wr.grownBy w' row) (hn : row' = row ∨ row' = some wr.heap.size) : Stab w' row' X := fun w'' g' =>
  h w'' (grown_trans g g' fun i hi h1 => by
    rcases hn with rfl | rfl
    · exact h1
    · intro e; injection e with e; omega)
theorem Stab.now {wr : World} {row : Option Nat} {X : World → Prop} (h : Stab wr row X) : X wr := h wr (World.grownBy.refl wr row)
structure AheadAt (B : Nat) (D : Ds) (wr : World) (A : Option Addr) (cap : Nat) (ls : List Lk) : Prop where
  row : wr.ownsRow B 180 5 (.slice A ls.length cap) ls.length (flatL ls)
  ops : ∀ x ∈ ls, LyOk D x.L ∧ Stab wr (Value.slice A ls.length cap).ownBlock (fun w' => RowOf OpAt 8 w' x.O x.L.ops)
theorem AheadAt.fr {B cap : Nat} {D : Ds} {wr w' : World} {A : Option Addr} {ls : List Lk} (h : AheadAt B D wr A cap ls) (k : Fr wr w') : AheadAt B D w' A cap ls :=
  ⟨ownsRow_fr h.row k, fun x hx => ⟨(h.ops x hx).1, (h.ops x hx).2.fr k⟩⟩
theorem AheadAt.at {B cap : Nat} {D : Ds} {wr : World} {A : Option Addr} {ls : List Lk} (h : AheadAt B D wr A cap ls) {k : Nat} (hk : k < ls.length) :
    ∃ g, A = some ⟨g, 0, none⟩ ∧ B ≤ g ∧ g < wr.heap.size ∧ ∀ m v, (lkC ls[k])[m]? = some v → wr.cell? ⟨g, k * 5 + m, none⟩ = some v := by
  rcases h.row.2 with ⟨_, hz⟩ | ⟨g, cap', cur, e, hb, hg, _, _, hs, ht⟩
  · omega
  · injection e with e e4 e5
    have hc : ∀ m v, (lkC ls[k])[m]? = some v → wr.cell? ⟨g, k * 5 + m, none⟩ = some v := fun m v hv => by
      have h1 := flatL_get ls k ls[k] m v (List.getElem?_eq_getElem hk) hv
      rw [← ht] at h1
      have h2 : k * 5 + m < ls.length * 5 := by
        rcases Nat.lt_or_ge (k * 5 + m) (ls.length * 5) with h3 | h3
        · exact h3
        · rw [List.getElem?_eq_none (by rw [List.length_take]; omega)] at h1; cases h1
      rw [List.getElem?_take_of_lt h2] at h1
      simp [World.cell?, hg]
      simpa using h1
    exact ⟨g, e, hb, lt_of_cell (hc 0 _ rfl), hc⟩
/-- Behind an append. -/
theorem AheadAt.next {B cap cap' g : Nat} {D : Ds} {wr w' : World} {A : Option Addr} {ls : List Lk} {x : Lk} (h : AheadAt B D wr A cap ls) (hg : GrewK wr B 180 5 (.slice A ls.length cap) (ls.length + 1) (flatL ls ++ lkC x) (.slice (some ⟨g, 0, none⟩) (ls.length + 1) cap') w')
    (hx : LyOk D x.L) (hs : Stab wr (Value.slice A ls.length cap).ownBlock (fun w' => RowOf OpAt 8 w' x.O x.L.ops)) : AheadAt B D w' (some ⟨g, 0, none⟩) cap' (ls ++ [x]) := by
  have hl : (ls ++ [x]).length = ls.length + 1 := by simp
  refine ⟨by rw [hl, flatL_snoc]; exact hg.1, fun y hy => ?_⟩
  rw [hl]
  rcases List.mem_append.1 hy with hy | hy
  · exact ⟨(h.ops y hy).1, (h.ops y hy).2.grown hg.2.1 hg.2.2⟩
  · obtain rfl : y = x := by simpa using hy
    exact ⟨hx, hs.grown hg.2.1 hg.2.2⟩
/-- What lay leaves of a layout's operands stays while the row of layouts grows. -/
theorem stab_of {w0 w1 wr : World} {row : Option Nat} {O : Option Addr} {l : List (Cl × List Int)} (h : ∀ w' : World, (∀ b, (b < w0.heap.size ∨ w1.heap.size ≤ b) → b < wr.heap.size → w'.heap[b]? = wr.heap[b]?) → RowOf OpAt 8 w' O l)
    (hr : ∀ b, row = some b → w0.heap.size ≤ b ∧ b < w1.heap.size) : Stab wr row (fun w' => RowOf OpAt 8 w' O l) := fun w' g =>
  h w' fun b hb hlt => g.block b hlt fun e => by have := hr b e.symm; omega
theorem clash_round {D : Ds} {j : Nat} (hj : j < D.fms.length) {ls : List Lk} (hl : ls.map (·.L) = (D.fms.take j).map (layF D)) : clashAt D j = !(ls.all fun x => apB x.L (layF D D.fms[j])) := by
  unfold clashAt
  rw [List.getElem?_eq_getElem hj]
  dsimp only
  have : (D.fms.take j).all (fun g => apB (layF D g) (layF D D.fms[j])) = ((D.fms.take j).map (layF D)).all (fun g => apB g (layF D D.fms[j])) := by rw [List.all_map]; rfl
  rw [this, ← hl, List.all_map]; rfl
end Go.Proofs.YtgldfokjnkmifaaGreatDoor
