/- How many bytes a form has; its effects: of the program. -/
import Derived.Test.YtdipnhghdajplaaGreatDoorP22
import Derived.Test.YtdipnhghdajplaaGreatDoorP23
namespace Go.Proofs.YtdipnhghdajplaaGreatDoor
open Go.RowKit
set_option linter.unusedSimpArgs false
set_option linter.unusedVariables false
def Ds.Light (D : Ds) : Prop := ∀ f ∈ D.fms, Go.Proofs.YtdipnhghdajplaaGreatDoor.Light f.pcs
theorem pat_any {w : World} {D : Ds} {v : Array Value} (hD : DescAt w D v) (fn fs : ByteArray) (Aa Bp Cs : Option Addr) (args : List Int) (pcs : List Pc) (ac bc2 cl cc2 : Nat) (hA : RowOf ArgS 2 w Aa args) (hP : RowOf PcAt 4 w Bp pcs) (hL : Light pcs) :
   Calls Tryz.prog 42 #[.agg v, .agg #[.string fn, .string fs, .slice Aa args.length ac, .slice Bp pcs.length bc2, .slice Cs cl cc2]] w fun e w' => e = .returned (.int .i64 (patN D args pcs : Int)) ∧ Fr w w' := by
 cases ho : opsB D args with
 | true => exact pat_yes hD fn fs Aa Bp Cs args pcs ac bc2 cl cc2 hA hP hL ho
 | false =>
   rw [show patN D args pcs = 0 by unfold patN; rw [if_neg (by simp [ho])]]
   exact pat_no hD fn fs Aa Bp Cs args pcs ac bc2 cl cc2 hA hP hL ho
theorem patN_le (D : Ds) (args : List Int) (pcs : List Pc) : patN D args pcs ≤ 120 := by
 unfold patN
 split
 · split
   · omega
   · split
     · rename_i h; simp at h; omega
     · omega
 · omega
set_option maxHeartbeats 6400000 in
set_option maxRecDepth 100000 in
theorem size_any {w : World} {D : Ds} {v : Array Value} (hD : DescAt w D v) (hL : D.Light) (n : Nat) (hn : n < D.fms.length) :
   Calls Tryz.prog 19 #[.agg v, .int .i64 (n : Int)] w fun e w' => e = .returned (.int .i64 ((patN D (D.fms[n]).args (D.fms[n]).pcs / 8 : Nat) : Int)) ∧ Fr w w' := by
 have HD := Lib.hid hD
 have hLn := hL _ (List.getElem_mem hn)
 have HP := Lib.hid (fun A c w => (show plB (n : Int) D.fms.length = true by simp [plB, hn]) ▸ formPlace_any (n : Int) A D.fms.length c w)
 have hle := patN_le D (D.fms[n]).args (D.fms[n]).pcs
 obtain ⟨s0, Fa, Ba, Ga, Ca, Ma, Ra, Ua, Xa, Ka, Na, Pa, fc, bc, gc, cc, mc, rc, uc, xc, kc, nl, nc, pc, rfl, h1, h2, h3, h4, h5, h6, h7, h8, h9⟩ := hD
 obtain ⟨bm, om, rfl, f0, f1, A2, k2, A3, k3, A4, k4, c0, c1, u2, v2, c2, r2, u3, v3, c3, r3, u4, v4, c4, r4⟩ := h4.at hn
 rw [Nat.mul_comm 5 n] at c0 c1 c2 c3 c4
 have HPT := Lib.hid (fun (w1 : World) (k : Fr w w1) => pat_any (HD.out.fr k) f0 f1 A2 A3 A4 (D.fms[n]).args (D.fms[n]).pcs k2 k3 (D.fms[n]).sem.length k4 (r2.fr fun _ _ _ x => x.fr k) (r3.fr fun _ _ _ x => x.fr k) hLn)
 have hni : (n : Int) < (D.fms.length : Int) := by omega
 generalize patN D (D.fms[n]).args (D.fms[n]).pcs = pn at *
 have eq8 : Int.tdiv (pn : Int) 8 = ((pn / 8 : Nat) : Int) := by simp
 generalize (D.fms[n]).args.length = al at *
 generalize (D.fms[n]).pcs.length = pl at *
 generalize (D.fms[n]).sem.length = sl at *
 have HF0 := Lib.hid (show Fr w (w.alloc (.cells #[.string s0, .int .i64 D.order, .slice Fa D.files.length fc, .slice Ba D.als.length bc, .slice Ga D.nflags gc, .slice Ca D.cls.length cc, .slice (some ⟨bm, om, none⟩) D.fms.length mc, .slice Ra D.rels.length rc, .slice Ua D.uses.length uc, .slice Xa D.rxs.length xc, .slice Ka D.mcs.length kc, .slice Na nl nc, .slice Pa D.regs.length pc] 33)) from Fr.alloc (Fr.refl w) _)
 have KD := Lib.hid (show BlkAt (w.alloc (.cells #[.string s0, .int .i64 D.order, .slice Fa D.files.length fc, .slice Ba D.als.length bc, .slice Ga D.nflags gc, .slice Ca D.cls.length cc, .slice (some ⟨bm, om, none⟩) D.fms.length mc, .slice Ra D.rels.length rc, .slice Ua D.uses.length uc, .slice Xa D.rxs.length xc, .slice Ka D.mcs.length kc, .slice Na nl nc, .slice Pa D.regs.length pc] 33)) w.heap.size [.string s0, .int .i64 D.order, .slice Fa D.files.length fc, .slice Ba D.als.length bc, .slice Ga D.nflags gc, .slice Ca D.cls.length cc, .slice (some ⟨bm, om, none⟩) D.fms.length mc, .slice Ra D.rels.length rc, .slice Ua D.uses.length uc, .slice Xa D.rxs.length xc, .slice Ka D.mcs.length kc, .slice Na nl nc, .slice Pa D.regs.length pc] from BlkAt.alloc)
 clear h1 h2 h3 h4 h5 h6 h7 h8 h9 r2 r3 r4 u2 v2 u3 v3 u4 v4 hLn hL
 go_enter Tryz.func19, Tryz.ntmps19
 go_wp2_with (go_at_call 41; refine (HP.out _ _ _).mono ?_; rintro e w4 ⟨rfl, rfl⟩)
 generalize World.alloc w _ = W at *
 have y0 := fun ex : Ext W => ex.get (KD.out 0 _ rfl); have y1 := fun ex : Ext W => ex.get (KD.out 1 _ rfl); have y2 := fun ex : Ext W => ex.get (KD.out 2 _ rfl); have y3 := fun ex : Ext W => ex.get (KD.out 3 _ rfl); have y4 := fun ex : Ext W => ex.get (KD.out 4 _ rfl); have y5 := fun ex : Ext W => ex.get (KD.out 5 _ rfl); have y6 := fun ex : Ext W => ex.get (KD.out 6 _ rfl); have y7 := fun ex : Ext W => ex.get (KD.out 7 _ rfl); have y8 := fun ex : Ext W => ex.get (KD.out 8 _ rfl); have y9 := fun ex : Ext W => ex.get (KD.out 9 _ rfl); have y10 := fun ex : Ext W => ex.get (KD.out 10 _ rfl); have y11 := fun ex : Ext W => ex.get (KD.out 11 _ rfl); have y12 := fun ex : Ext W => ex.get (KD.out 12 _ rfl)
 have g0 := fun ex : Ext W => ex.get (HF0.out.get c0)
 have g1 := fun ex : Ext W => ex.get (HF0.out.get c1)
 have g2 := fun ex : Ext W => ex.get (HF0.out.get c2)
 have g3 := fun ex : Ext W => ex.get (HF0.out.get c3)
 have g4 := fun ex : Ext W => ex.get (HF0.out.get c4)
 clear c0 c1 c2 c3 c4
 refine wp_region_ext (by kernel_rfl) (by kernel_rfl) ?_
 repeat (go_big_quiet_step ((go_at_call 42; exact ext_of (HPT.out _ (HF0.out.call (Ext.fr _))))))
 refine wpQuiet_nil ?_
 intro w4 hw4
 obtain ⟨y4', hy4'⟩ := hw4
 have hb4 : Fr W w4 := by rw [hy4']; exact y4'.fr
 clear hy4' y4'
 go_wp2
 go_ret
 exact ⟨ret_int rfl, HF0.out.call hb4⟩
theorem sc_keep {W wx : World} {g s o : Nat} {v0 v1 v2 v3 v4 v5 v6 v7 v8 v9 v10 v11 v12 u : Value} (h0 : W.cell? ⟨g, 0, none⟩ = some v0) (h1 : W.cell? ⟨g, 1, none⟩ = some v1) (h2 : W.cell? ⟨g, 2, none⟩ = some v2) (h3 : W.cell? ⟨g, 3, none⟩ = some v3) (h4 : W.cell? ⟨g, 4, none⟩ = some v4) (h5 : W.cell? ⟨g, 5, none⟩ = some v5) (h6 : W.cell? ⟨g, 6, none⟩ = some v6) (h7 : W.cell? ⟨g, 7, none⟩ = some v7) (h8 : W.cell? ⟨g, 8, none⟩ = some v8) (h9 : W.cell? ⟨g, 9, none⟩ = some v9) (h10 : W.cell? ⟨g, 10, none⟩ = some v10) (h11 : W.cell? ⟨g, 11, none⟩ = some v11) (h12 : W.cell? ⟨g, 12, none⟩ = some v12) (hs : W.cell? ⟨s, o, none⟩ = some u) (h : Fr W wx) :
   Fr W wx ∧ wx.cell? ⟨g, 0, none⟩ = some v0 ∧ wx.cell? ⟨g, 1, none⟩ = some v1 ∧ wx.cell? ⟨g, 2, none⟩ = some v2 ∧ wx.cell? ⟨g, 3, none⟩ = some v3 ∧ wx.cell? ⟨g, 4, none⟩ = some v4 ∧ wx.cell? ⟨g, 5, none⟩ = some v5 ∧ wx.cell? ⟨g, 6, none⟩ = some v6 ∧ wx.cell? ⟨g, 7, none⟩ = some v7 ∧ wx.cell? ⟨g, 8, none⟩ = some v8 ∧ wx.cell? ⟨g, 9, none⟩ = some v9 ∧ wx.cell? ⟨g, 10, none⟩ = some v10 ∧ wx.cell? ⟨g, 11, none⟩ = some v11 ∧ wx.cell? ⟨g, 12, none⟩ = some v12 ∧ wx.cell? ⟨s, o, none⟩ = some u := ⟨h, h.get h0, h.get h1, h.get h2, h.get h3, h.get h4, h.get h5, h.get h6, h.get h7, h.get h8, h.get h9, h.get h10, h.get h11, h.get h12, h.get hs⟩
set_option maxHeartbeats 6400000 in
set_option maxRecDepth 100000 in
theorem effectsRight_any {w : World} {D : Ds} {v : Array Value} (hD : DescAt w D v) (n : Nat) (hn : n < D.fms.length) :
   Calls Tryz.prog 22 #[.agg v, .int .i64 (n : Int)] w fun e w' => e = .returned (.bool (effL (D.env (D.fms[n]).args) (D.fms[n]).sem)) ∧ Fr w w' := by
 obtain ⟨s0, Fa, Ba, Ga, Ca, Ma, Ra, Ua, Xa, Ka, Na, Pa, fc, bc, gc, cc, mc, rc, uc, xc, kc, nl, nc, pc, rfl, h1, h2, h3, h4, h5, h6, h7, h8, h9⟩ := hD
 obtain ⟨bm, om, rfl, f0, f1, A2, k2, A3, k3, A4, k4, c0, c1, u2, v2, c2, r2, u3, v3, c3, r3, u4, v4, c4, r4⟩ := h4.at hn
 rw [Nat.mul_comm 5 n] at c0 c1 c2 c3 c4
 have HE := Lib.hid (env_at (args := (D.fms[n]).args) h1 h3 (ArgS.row r2))
 have HT := Lib.hid (tmL_row r4)
 have hsm : (D.fms[n]).sem.length ≤ maxLen := Nat.le_trans u4 v4
 have HEF := Lib.hid (fun (w1 : World) (sb : Nat) (S : BlkAt w1 sb [.string s0, .int .i64 D.order, .slice Fa D.files.length fc, .slice Ba D.als.length bc, .slice Ga D.nflags gc, .slice Ca D.cls.length cc, .slice (some ⟨bm, om, none⟩) D.fms.length mc, .slice Ra D.rels.length rc, .slice Ua D.uses.length uc, .slice Xa D.rxs.length xc, .slice Ka D.mcs.length kc, .slice Na nl nc, .slice Pa D.regs.length pc, .slice A2 (D.fms[n]).args.length k2]) (k : Fr w w1) => effects_any (E := D.env (D.fms[n]).args) (w := w1) (sb := sb) (by simpa [Ds.env] using S) (HE.out.fr k) (D.fms[n]).sem A4 k4 (TmL.fr k HT.out) hsm)
 have hni : (n : Int) < (D.fms.length : Int) := by omega
 generalize effL (D.env (D.fms[n]).args) (D.fms[n]).sem = q at *
 generalize (D.fms[n]).args.length = al at *
 generalize (D.fms[n]).sem.length = sl at *
 have HF0 := Lib.hid (show Fr w (w.alloc (.cells #[.string s0, .int .i64 D.order, .slice Fa D.files.length fc, .slice Ba D.als.length bc, .slice Ga D.nflags gc, .slice Ca D.cls.length cc, .slice (some ⟨bm, om, none⟩) D.fms.length mc, .slice Ra D.rels.length rc, .slice Ua D.uses.length uc, .slice Xa D.rxs.length xc, .slice Ka D.mcs.length kc, .slice Na nl nc, .slice Pa D.regs.length pc] 33)) from Fr.alloc (Fr.refl w) _)
 have KD := Lib.hid (show BlkAt (w.alloc (.cells #[.string s0, .int .i64 D.order, .slice Fa D.files.length fc, .slice Ba D.als.length bc, .slice Ga D.nflags gc, .slice Ca D.cls.length cc, .slice (some ⟨bm, om, none⟩) D.fms.length mc, .slice Ra D.rels.length rc, .slice Ua D.uses.length uc, .slice Xa D.rxs.length xc, .slice Ka D.mcs.length kc, .slice Na nl nc, .slice Pa D.regs.length pc] 33)) w.heap.size [.string s0, .int .i64 D.order, .slice Fa D.files.length fc, .slice Ba D.als.length bc, .slice Ga D.nflags gc, .slice Ca D.cls.length cc, .slice (some ⟨bm, om, none⟩) D.fms.length mc, .slice Ra D.rels.length rc, .slice Ua D.uses.length uc, .slice Xa D.rxs.length xc, .slice Ka D.mcs.length kc, .slice Na nl nc, .slice Pa D.regs.length pc] from BlkAt.alloc)
 clear h1 h2 h3 h4 h5 h6 h7 h8 h9 r2 r3 r4 u2 v2 u3 v3 u4 v4 hsm HE HT
 go_enter Tryz.func22, Tryz.ntmps22
 go_wp2_with fail
 generalize World.alloc w _ = W at *
 have C2 := Lib.hid (HF0.out.get c2)
 have g4 := HF0.out.get c4
 have Y0 := Lib.hid (KD.out 0 _ rfl); have Y1 := Lib.hid (KD.out 1 _ rfl); have Y2 := Lib.hid (KD.out 2 _ rfl); have Y3 := Lib.hid (KD.out 3 _ rfl); have Y4 := Lib.hid (KD.out 4 _ rfl); have Y5 := Lib.hid (KD.out 5 _ rfl); have Y6 := Lib.hid (KD.out 6 _ rfl); have Y7 := Lib.hid (KD.out 7 _ rfl); have Y8 := Lib.hid (KD.out 8 _ rfl); have Y9 := Lib.hid (KD.out 9 _ rfl); have Y10 := Lib.hid (KD.out 10 _ rfl); have Y11 := Lib.hid (KD.out 11 _ rfl); have Y12 := Lib.hid (KD.out 12 _ rfl)
 have zw := lt_of_cell Y0.out
 have zb := lt_of_cell C2.out
 have y6 := Y6.out
 clear c0 c1 c2 c3 c4
 go_region_held3 (fun wx => Fr W wx ∧ wx.cell? ⟨w.heap.size, 0, none⟩ = some (.string s0) ∧ wx.cell? ⟨w.heap.size, 1, none⟩ = some (.int .i64 D.order) ∧ wx.cell? ⟨w.heap.size, 2, none⟩ = some (.slice Fa D.files.length fc) ∧ wx.cell? ⟨w.heap.size, 3, none⟩ = some (.slice Ba D.als.length bc) ∧ wx.cell? ⟨w.heap.size, 4, none⟩ = some (.slice Ga D.nflags gc) ∧ wx.cell? ⟨w.heap.size, 5, none⟩ = some (.slice Ca D.cls.length cc) ∧ wx.cell? ⟨w.heap.size, 6, none⟩ = some (.slice (some ⟨bm, om, none⟩) D.fms.length mc) ∧ wx.cell? ⟨w.heap.size, 7, none⟩ = some (.slice Ra D.rels.length rc) ∧ wx.cell? ⟨w.heap.size, 8, none⟩ = some (.slice Ua D.uses.length uc) ∧ wx.cell? ⟨w.heap.size, 9, none⟩ = some (.slice Xa D.rxs.length xc) ∧ wx.cell? ⟨w.heap.size, 10, none⟩ = some (.slice Ka D.mcs.length kc) ∧ wx.cell? ⟨w.heap.size, 11, none⟩ = some (.slice Na nl nc) ∧ wx.cell? ⟨w.heap.size, 12, none⟩ = some (.slice Pa D.regs.length pc) ∧ wx.cell? ⟨bm, om + n * 5 + 2, none⟩ = some (.slice A2 al k2)) ((refine sc_keep Y0.out Y1.out Y2.out Y3.out Y4.out Y5.out Y6.out Y7.out Y8.out Y9.out Y10.out Y11.out Y12.out C2.out ?_; first | exact Fr.refl _ | exact (Fr.refl _).drew | exact ((Fr.refl _).alloc _).drew | exact ((Fr.refl _).alloc _))) (fail)
 all_goals
   go_wp2_with fail
   refine (HEF.out _ _ (BlkAt.fr BlkAt.alloc (Fr.drew (Fr.refl _))) ((Fr.alloc HF0.out _).drew)).mono ?_
   rintro e w4 ⟨rfl, hf4⟩
   have HF4 := Lib.hid (((Fr.alloc HF0.out _).drew).call hf4)
   clear hf4
   go_wp2
   go_ret
   exact ⟨rfl, HF4.out⟩
end Go.Proofs.YtdipnhghdajplaaGreatDoor
