/- The law's walk: any term's width. -/
import Derived.Test.YtcndmiolaheaeabGreatDoorVm
import Derived.Test.YtcndmiolaheaeabGreatDoorVn
import Derived.Test.YtcndmiolaheaeabGreatDoorOc
namespace Go.Proofs.YtcndmiolaheaeabGreatDoor
open Go.RowKit
set_option linter.unusedSimpArgs false
set_option linter.unusedVariables false

section
variable {W : World} {s0 : ByteArray} {z1 : Int} {Fa Ca Ga Ma B3 B7 B8 B9 B10 B11 B12 : Option Addr} {files : List (Int × Int × Int)} {classes : List (Int × Int)} {fs : List (List Int)} {fc gc cc mc ng l3 c3 l7 c7 l8 c8 l9 c9 l10 c10 l11 c11 l12 c12 : Nat}
set_option maxHeartbeats 12800000 in
set_option maxRecDepth 100000 in
theorem widths_no (x op wd a b : Int) (A : Option Addr) (ks : List Tm) (c : Nat) (hx : plB x fs.length = false) (hal : ∀ w : World, Calls Tryz.prog 7 #[] w fun e w' => e = .returned (.bool true) ∧ Fr w w') :
    Calls Tryz.prog 4 #[.agg #[.string s0, .int .i64 z1, .slice Fa files.length fc, .slice B3 l3 c3, .slice Ga ng gc, .slice Ca classes.length cc, .slice Ma fs.length mc, .slice B7 l7 c7, .slice B8 l8 c8, .slice B9 l9 c9, .slice B10 l10 c10, .slice B11 l11 c11, .slice B12 l12 c12], .int .i64 x, .agg #[.int .i64 op, .int .i64 wd, .int .i64 a, .int .i64 b, .slice A ks.length c]] W fun e w' => e = .returned (.bool true) ∧ Fr W w' := by
  have HW := Lib.hid (fun w => pwidth_no (E := ⟨files, classes, ng, []⟩) (w := w) (Fa := Fa) (Ca := Ca) (Ga := Ga) (Ma := Ma) (n0 := .string s0) (n1 := .int .i64 z1) (n3 := .slice B3 l3 c3) (n7 := .slice B7 l7 c7) (n8 := .slice B8 l8 c8) (n9 := .slice B9 l9 c9) (n10 := .slice B10 l10 c10) (n11 := .slice B11 l11 c11) (n12 := .slice B12 l12 c12) (fc := fc) (gc := gc) (cc := cc) (mc := mc) x op wd a b A ks.length c hx)
  have hx2 : x < 0 ∨ (fs.length : Int) ≤ x := by simp [plB] at hx; omega
  have HAL := Lib.hid hal
  have HBD := Lib.hid (show BlkAt ((W.alloc (.cells #[.string s0, .int .i64 z1, .slice Fa files.length fc, .slice B3 l3 c3, .slice Ga ng gc, .slice Ca classes.length cc, .slice Ma fs.length mc, .slice B7 l7 c7, .slice B8 l8 c8, .slice B9 l9 c9, .slice B10 l10 c10, .slice B11 l11 c11, .slice B12 l12 c12] 34)).alloc (.cells #[.int .i64 op, .int .i64 wd, .int .i64 a, .int .i64 b, .slice A ks.length c] 42)) W.heap.size [.string s0, .int .i64 z1, .slice Fa files.length fc, .slice B3 l3 c3, .slice Ga ng gc, .slice Ca classes.length cc, .slice Ma fs.length mc, .slice B7 l7 c7, .slice B8 l8 c8, .slice B9 l9 c9, .slice B10 l10 c10, .slice B11 l11 c11, .slice B12 l12 c12] from BlkAt.fr (by have := BlkAt.alloc (w := W) (t := 34) (cs := #[.string s0, .int .i64 z1, .slice Fa files.length fc, .slice B3 l3 c3, .slice Ga ng gc, .slice Ca classes.length cc, .slice Ma fs.length mc, .slice B7 l7 c7, .slice B8 l8 c8, .slice B9 l9 c9, .slice B10 l10 c10, .slice B11 l11 c11, .slice B12 l12 c12]); simpa using this) (Fr.alloc (Fr.refl _) _))
  have HBT := Lib.hid (show BlkAt ((W.alloc (.cells #[.string s0, .int .i64 z1, .slice Fa files.length fc, .slice B3 l3 c3, .slice Ga ng gc, .slice Ca classes.length cc, .slice Ma fs.length mc, .slice B7 l7 c7, .slice B8 l8 c8, .slice B9 l9 c9, .slice B10 l10 c10, .slice B11 l11 c11, .slice B12 l12 c12] 34)).alloc (.cells #[.int .i64 op, .int .i64 wd, .int .i64 a, .int .i64 b, .slice A ks.length c] 42)) (W.heap.size + 1) [.int .i64 op, .int .i64 wd, .int .i64 a, .int .i64 b, .slice A ks.length c] from (by have := BlkAt.alloc (w := (W.alloc (.cells #[.string s0, .int .i64 z1, .slice Fa files.length fc, .slice B3 l3 c3, .slice Ga ng gc, .slice Ca classes.length cc, .slice Ma fs.length mc, .slice B7 l7 c7, .slice B8 l8 c8, .slice B9 l9 c9, .slice B10 l10 c10, .slice B11 l11 c11, .slice B12 l12 c12] 34))) (t := 42) (cs := #[.int .i64 op, .int .i64 wd, .int .i64 a, .int .i64 b, .slice A ks.length c]); simpa using this))
  have HF0 := Lib.hid (show Fr W ((W.alloc (.cells #[.string s0, .int .i64 z1, .slice Fa files.length fc, .slice B3 l3 c3, .slice Ga ng gc, .slice Ca classes.length cc, .slice Ma fs.length mc, .slice B7 l7 c7, .slice B8 l8 c8, .slice B9 l9 c9, .slice B10 l10 c10, .slice B11 l11 c11, .slice B12 l12 c12] 34)).alloc (.cells #[.int .i64 op, .int .i64 wd, .int .i64 a, .int .i64 b, .slice A ks.length c] 42)) from Fr.alloc (Fr.alloc (Fr.refl W) _) _)
  clear hx hal
  go_enter Tryz.func4, Tryz.ntmps4
  go_wp2_with (go_at_call 7; refine (HAL.out _).mono ?_; rintro e w1 ⟨rfl, hf1⟩; have HF1 := Lib.hid hf1; clear hf1; have d0 := HBD.out.fr HF1.out 0 _ rfl; have d1 := HBD.out.fr HF1.out 1 _ rfl; have d2 := HBD.out.fr HF1.out 2 _ rfl; have d3 := HBD.out.fr HF1.out 3 _ rfl; have d4 := HBD.out.fr HF1.out 4 _ rfl; have d5 := HBD.out.fr HF1.out 5 _ rfl; have d6 := HBD.out.fr HF1.out 6 _ rfl; have d7 := HBD.out.fr HF1.out 7 _ rfl; have d8 := HBD.out.fr HF1.out 8 _ rfl; have d9 := HBD.out.fr HF1.out 9 _ rfl; have d10 := HBD.out.fr HF1.out 10 _ rfl; have d11 := HBD.out.fr HF1.out 11 _ rfl; have d12 := HBD.out.fr HF1.out 12 _ rfl; have t0 := HBT.out.fr HF1.out 0 _ rfl; have t1 := HBT.out.fr HF1.out 1 _ rfl; have t2 := HBT.out.fr HF1.out 2 _ rfl; have t3 := HBT.out.fr HF1.out 3 _ rfl; have t4 := HBT.out.fr HF1.out 4 _ rfl)
  go_wp2_with (go_at_call 10; refine (HW.out _).mono ?_; rintro e w2 ⟨rfl, hf2⟩; have HF2 := Lib.hid (HF1.out.call hf2); clear hf2; have e0 := HBD.out.fr HF2.out 0 _ rfl; have e1 := HBD.out.fr HF2.out 1 _ rfl; have e2 := HBD.out.fr HF2.out 2 _ rfl; have e3 := HBD.out.fr HF2.out 3 _ rfl; have e4 := HBD.out.fr HF2.out 4 _ rfl; have e5 := HBD.out.fr HF2.out 5 _ rfl; have e6 := HBD.out.fr HF2.out 6 _ rfl; have e7 := HBD.out.fr HF2.out 7 _ rfl; have e8 := HBD.out.fr HF2.out 8 _ rfl; have e9 := HBD.out.fr HF2.out 9 _ rfl; have e10 := HBD.out.fr HF2.out 10 _ rfl; have e11 := HBD.out.fr HF2.out 11 _ rfl; have e12 := HBD.out.fr HF2.out 12 _ rfl; have u0 := HBT.out.fr HF2.out 0 _ rfl; have u1 := HBT.out.fr HF2.out 1 _ rfl; have u2 := HBT.out.fr HF2.out 2 _ rfl; have u3 := HBT.out.fr HF2.out 3 _ rfl; have u4 := HBT.out.fr HF2.out 4 _ rfl)
  all_goals (go_ret; exact ⟨ret_bool (by simp), HF0.out.call HF2.out⟩)
set_option maxHeartbeats 25600000 in
set_option maxRecDepth 100000 in
theorem widths_at {i : Nat} (hi : i < fs.length) (hM : RowOf FormAt 5 W Ma fs) (hF : RowOf FileAt 4 W Fa files) (hC : RowOf ClassAt 7 W Ca classes) (op wd a b : Int) (A : Option Addr) (ks : List Tm) (c : Nat) (hT : TmL W A ks) (hal : ∀ w : World, Calls Tryz.prog 7 #[] w fun e w' => e = .returned (.bool true) ∧ Fr w w') :
    Calls Tryz.prog 4 #[.agg #[.string s0, .int .i64 z1, .slice Fa files.length fc, .slice B3 l3 c3, .slice Ga ng gc, .slice Ca classes.length cc, .slice Ma fs.length mc, .slice B7 l7 c7, .slice B8 l8 c8, .slice B9 l9 c9, .slice B10 l10 c10, .slice B11 l11 c11, .slice B12 l12 c12], .int .i64 (i : Int), .agg #[.int .i64 op, .int .i64 wd, .int .i64 a, .int .i64 b, .slice A ks.length c]] W fun e w' => e = .returned (.bool true) ∧ Fr W w' := by
  have HW := Lib.hid (fun w (k : Fr W w) => pwidth_at (E := ⟨files, classes, ng, fs[i]⟩) (w := w) (Fa := Fa) (Ca := Ca) (Ga := Ga) (Ma := Ma) (fc := fc) (gc := gc) (cc := cc) (mc := mc) (hM.fr fun _ _ _ x => x.fr k) hi rfl (hF.fr fun _ _ _ x => x.fr k) (hC.fr fun _ _ _ x => x.fr k) op wd a b A ks c (hT.fr k) s0 z1 B3 B7 B8 B9 B10 B11 B12 l3 c3 l7 c7 l8 c8 l9 c9 l10 c10 l11 c11 l12 c12)
  have HAL := Lib.hid hal
  have HBD := Lib.hid (show BlkAt ((W.alloc (.cells #[.string s0, .int .i64 z1, .slice Fa files.length fc, .slice B3 l3 c3, .slice Ga ng gc, .slice Ca classes.length cc, .slice Ma fs.length mc, .slice B7 l7 c7, .slice B8 l8 c8, .slice B9 l9 c9, .slice B10 l10 c10, .slice B11 l11 c11, .slice B12 l12 c12] 34)).alloc (.cells #[.int .i64 op, .int .i64 wd, .int .i64 a, .int .i64 b, .slice A ks.length c] 42)) W.heap.size [.string s0, .int .i64 z1, .slice Fa files.length fc, .slice B3 l3 c3, .slice Ga ng gc, .slice Ca classes.length cc, .slice Ma fs.length mc, .slice B7 l7 c7, .slice B8 l8 c8, .slice B9 l9 c9, .slice B10 l10 c10, .slice B11 l11 c11, .slice B12 l12 c12] from BlkAt.fr (by have := BlkAt.alloc (w := W) (t := 34) (cs := #[.string s0, .int .i64 z1, .slice Fa files.length fc, .slice B3 l3 c3, .slice Ga ng gc, .slice Ca classes.length cc, .slice Ma fs.length mc, .slice B7 l7 c7, .slice B8 l8 c8, .slice B9 l9 c9, .slice B10 l10 c10, .slice B11 l11 c11, .slice B12 l12 c12]); simpa using this) (Fr.alloc (Fr.refl _) _))
  have HBT := Lib.hid (show BlkAt ((W.alloc (.cells #[.string s0, .int .i64 z1, .slice Fa files.length fc, .slice B3 l3 c3, .slice Ga ng gc, .slice Ca classes.length cc, .slice Ma fs.length mc, .slice B7 l7 c7, .slice B8 l8 c8, .slice B9 l9 c9, .slice B10 l10 c10, .slice B11 l11 c11, .slice B12 l12 c12] 34)).alloc (.cells #[.int .i64 op, .int .i64 wd, .int .i64 a, .int .i64 b, .slice A ks.length c] 42)) (W.heap.size + 1) [.int .i64 op, .int .i64 wd, .int .i64 a, .int .i64 b, .slice A ks.length c] from (by have := BlkAt.alloc (w := (W.alloc (.cells #[.string s0, .int .i64 z1, .slice Fa files.length fc, .slice B3 l3 c3, .slice Ga ng gc, .slice Ca classes.length cc, .slice Ma fs.length mc, .slice B7 l7 c7, .slice B8 l8 c8, .slice B9 l9 c9, .slice B10 l10 c10, .slice B11 l11 c11, .slice B12 l12 c12] 34))) (t := 42) (cs := #[.int .i64 op, .int .i64 wd, .int .i64 a, .int .i64 b, .slice A ks.length c]); simpa using this))
  have HF0 := Lib.hid (show Fr W ((W.alloc (.cells #[.string s0, .int .i64 z1, .slice Fa files.length fc, .slice B3 l3 c3, .slice Ga ng gc, .slice Ca classes.length cc, .slice Ma fs.length mc, .slice B7 l7 c7, .slice B8 l8 c8, .slice B9 l9 c9, .slice B10 l10 c10, .slice B11 l11 c11, .slice B12 l12 c12] 34)).alloc (.cells #[.int .i64 op, .int .i64 wd, .int .i64 a, .int .i64 b, .slice A ks.length c] 42)) from Fr.alloc (Fr.alloc (Fr.refl W) _) _)
  obtain ⟨bm, om, rfl, fn, fsy, Aa, ac, Bp, bpl, bpc, Cp, cpl, cpc, hac, f0, f1, f2, f3, f4, hr⟩ := hM.at hi
  rw [Nat.mul_comm 5 i] at f0 f1 f2 f3 f4
  have HR := Lib.hid (fun w (k : Fr W w) => rwidth_all _ op wd a b ks A c w ⟨files, classes, ng, fs[i]⟩ Fa Ca Aa Ga (some ⟨bm, om, none⟩) (.string s0) (.int .i64 z1) (.slice B3 l3 c3) (.slice B7 l7 c7) (.slice B8 l8 c8) (.slice B9 l9 c9) (.slice B10 l10 c10) (.slice B11 l11 c11) (.slice B12 l12 c12) (.string fn) (.string fsy) (.slice Bp bpl bpc) (.slice Cp cpl cpc) fc gc cc fs.length mc ac (Nat.lt_succ_self _) (⟨hF.fr fun _ _ _ x => x.fr k, hC.fr fun _ _ _ x => x.fr k, hr.fr fun _ _ _ x => x.fr k⟩) (hT.fr k))
  have hbd := widT_bd ⟨files, classes, ng, fs[i]⟩ (.node op wd a b ks)
  generalize widT ⟨files, classes, ng, fs[i]⟩ (.node op wd a b ks) = v at *
  have hii : (i : Int) < (fs.length : Int) := by omega
  have hi0 : ¬ (i : Int) < 0 := by omega
  have hi1 : ¬ (fs.length : Int) ≤ (i : Int) := by omega
  have H0 := Lib.hid f0
  have H1 := Lib.hid f1
  have H2 := Lib.hid f2
  have H3 := Lib.hid f3
  have H4 := Lib.hid f4
  have HV := Lib.hid hbd
  clear hM hF hC hr hT f0 f1 f2 f3 f4 hbd hal
  go_enter Tryz.func4, Tryz.ntmps4
  go_wp2_with (go_at_call 7; refine (HAL.out _).mono ?_; rintro e w1 ⟨rfl, hf1⟩; have HF1 := Lib.hid hf1; clear hf1; have d0 := HBD.out.fr HF1.out 0 _ rfl; have d1 := HBD.out.fr HF1.out 1 _ rfl; have d2 := HBD.out.fr HF1.out 2 _ rfl; have d3 := HBD.out.fr HF1.out 3 _ rfl; have d4 := HBD.out.fr HF1.out 4 _ rfl; have d5 := HBD.out.fr HF1.out 5 _ rfl; have d6 := HBD.out.fr HF1.out 6 _ rfl; have d7 := HBD.out.fr HF1.out 7 _ rfl; have d8 := HBD.out.fr HF1.out 8 _ rfl; have d9 := HBD.out.fr HF1.out 9 _ rfl; have d10 := HBD.out.fr HF1.out 10 _ rfl; have d11 := HBD.out.fr HF1.out 11 _ rfl; have d12 := HBD.out.fr HF1.out 12 _ rfl; have t0 := HBT.out.fr HF1.out 0 _ rfl; have t1 := HBT.out.fr HF1.out 1 _ rfl; have t2 := HBT.out.fr HF1.out 2 _ rfl; have t3 := HBT.out.fr HF1.out 3 _ rfl; have t4 := HBT.out.fr HF1.out 4 _ rfl)
  go_wp2_with (go_at_call 10; refine (HW.out _ (HF0.out.call HF1.out)).mono ?_; rintro e w2 ⟨rfl, hf2⟩; have HF2 := Lib.hid (HF1.out.call hf2); clear hf2; have e6 := HBD.out.fr HF2.out 6 _ rfl)
  clear d0 d1 d2 d3 d4 d5 d6 d7 d8 d9 d10 d11 d12 t0 t1 t2 t3 t4
  have a0 := fun ex : Ext w2 => ex.get (HBD.out.fr HF2.out 0 _ rfl)
  have a1 := fun ex : Ext w2 => ex.get (HBD.out.fr HF2.out 1 _ rfl)
  have a2 := fun ex : Ext w2 => ex.get (HBD.out.fr HF2.out 2 _ rfl)
  have a3 := fun ex : Ext w2 => ex.get (HBD.out.fr HF2.out 3 _ rfl)
  have a4 := fun ex : Ext w2 => ex.get (HBD.out.fr HF2.out 4 _ rfl)
  have a5 := fun ex : Ext w2 => ex.get (HBD.out.fr HF2.out 5 _ rfl)
  have a6 := fun ex : Ext w2 => ex.get (HBD.out.fr HF2.out 6 _ rfl)
  have a7 := fun ex : Ext w2 => ex.get (HBD.out.fr HF2.out 7 _ rfl)
  have a8 := fun ex : Ext w2 => ex.get (HBD.out.fr HF2.out 8 _ rfl)
  have a9 := fun ex : Ext w2 => ex.get (HBD.out.fr HF2.out 9 _ rfl)
  have a10 := fun ex : Ext w2 => ex.get (HBD.out.fr HF2.out 10 _ rfl)
  have a11 := fun ex : Ext w2 => ex.get (HBD.out.fr HF2.out 11 _ rfl)
  have a12 := fun ex : Ext w2 => ex.get (HBD.out.fr HF2.out 12 _ rfl)
  have b0 := fun ex : Ext w2 => ex.get (HBT.out.fr HF2.out 0 _ rfl)
  have b1 := fun ex : Ext w2 => ex.get (HBT.out.fr HF2.out 1 _ rfl)
  have b2 := fun ex : Ext w2 => ex.get (HBT.out.fr HF2.out 2 _ rfl)
  have b3 := fun ex : Ext w2 => ex.get (HBT.out.fr HF2.out 3 _ rfl)
  have b4 := fun ex : Ext w2 => ex.get (HBT.out.fr HF2.out 4 _ rfl)
  have g0 := fun ex : Ext w2 => ex.get ((HF0.out.call HF2.out).get H0.out)
  have g1 := fun ex : Ext w2 => ex.get ((HF0.out.call HF2.out).get H1.out)
  have g2 := fun ex : Ext w2 => ex.get ((HF0.out.call HF2.out).get H2.out)
  have g3 := fun ex : Ext w2 => ex.get ((HF0.out.call HF2.out).get H3.out)
  have g4 := fun ex : Ext w2 => ex.get ((HF0.out.call HF2.out).get H4.out)
  have HFX := Lib.hid (fun ex : Ext w2 => (HF0.out.call HF2.out).call ex.fr)
  have hv0 : 0 ≤ v := HV.out.1
  have hv1 : v ≤ 128 := HV.out.2
  have hd0 : decide (0 ≤ v) = true := by simpa using hv0
  have hd1 : decide (v ≤ 128) = true := by simpa using hv1
  refine wp_region_ext (by kernel_rfl) (by kernel_rfl) ?_
  repeat (go_big_quiet_step ((go_at_call 11; exact ext_of (HR.out _ (HFX.out _)))))
  refine wpQuiet_nil ?_
  intro w4 hw4
  obtain ⟨y4, hy4⟩ := hw4
  have hb4 : Fr w2 w4 := by rw [hy4]; exact y4.fr
  clear hy4 y4
  go_wp2
  go_ret
  exact ⟨ret_bool (by simp), (HF0.out.call HF2.out).call hb4⟩
end
end Go.Proofs.YtcndmiolaheaeabGreatDoor
