/- The program's Width, of any description, form and term. -/
import Derived.Test.YtcndmiolaheaeabGreatDoorVj
import Derived.Test.YtcndmiolaheaeabGreatDoorOb
import Derived.Deep.RegionHeld3
namespace Go.Proofs.YtcndmiolaheaeabGreatDoor
open Go.RowKit
set_option linter.unusedSimpArgs false
set_option linter.unusedVariables false

section
variable {E : Env} {w : World} {Fa Ca Aa Ga Ma : Option Addr} {n0 n1 n3 n7 n8 n9 n10 n11 n12 : Value} {fc gc cc ml mc : Nat}
set_option maxHeartbeats 6400000 in
theorem pwidth_no (x op wd a b : Int) (A : Option Addr) (l c : Nat) (hx : plB x ml = false) :
    Calls Tryz.prog 10 #[.agg #[n0, n1, .slice Fa E.files.length fc, n3, .slice Ga E.nflags gc, .slice Ca E.classes.length cc, .slice Ma ml mc, n7, n8, n9, n10, n11, n12], .int .i64 x, .agg #[.int .i64 op, .int .i64 wd, .int .i64 a, .int .i64 b, .slice A l c]] w fun e w' => e = .returned (.int .i64 0) ∧ Fr w w' := by
  have HX := Lib.hid (fun w => hx ▸ formPlace_any x Ma ml mc w)
  clear hx
  go_enter Tryz.func10, Tryz.ntmps10
  go_wp2_with (go_at_call 22; refine (HX.out _).mono ?_; rintro e w1 ⟨rfl, rfl⟩)
  go_ret
  exact ⟨ret_int rfl, Fr.alloc (Fr.alloc (Fr.refl w) _) _⟩
set_option maxHeartbeats 12800000 in
set_option maxRecDepth 100000 in
theorem pwidth_at {fs : List (List Int)} (hM : RowOf FormAt 5 w Ma fs) {i : Nat} (hi : i < fs.length) (hE : E.args = fs[i]) (hF : RowOf FileAt 4 w Fa E.files) (hC : RowOf ClassAt 7 w Ca E.classes) (op wd a b : Int) (A : Option Addr) (ks : List Tm) (c : Nat) (hT : TmL w A ks) (s0 : ByteArray) (z1 : Int) (B3 B7 B8 B9 B10 B11 B12 : Option Addr) (l3 c3 l7 c7 l8 c8 l9 c9 l10 c10 l11 c11 l12 c12 : Nat) :
    Calls Tryz.prog 10 #[.agg #[.string s0, .int .i64 z1, .slice Fa E.files.length fc, .slice B3 l3 c3, .slice Ga E.nflags gc, .slice Ca E.classes.length cc, .slice Ma fs.length mc, .slice B7 l7 c7, .slice B8 l8 c8, .slice B9 l9 c9, .slice B10 l10 c10, .slice B11 l11 c11, .slice B12 l12 c12], .int .i64 (i : Int), .agg #[.int .i64 op, .int .i64 wd, .int .i64 a, .int .i64 b, .slice A ks.length c]] w fun e w' => e = .returned (.int .i64 (widT E (.node op wd a b ks))) ∧ Fr w w' := by
  have HX := Lib.hid (fun A w => (show plB (i : Int) fs.length = true by simp [plB_nat, hi]) ▸ formPlace_any (i : Int) A fs.length mc w)
  obtain ⟨bm, om, rfl, fn, fsy, Aa, ac, Bp, bpl, bpc, Cp, cpl, cpc, hac, f0, f1, f2, f3, f4, hr⟩ := hM.at hi
  rw [Nat.mul_comm 5 i] at f0 f1 f2 f3 f4
  rw [← hE] at f2 hr hac
  have HEn := Lib.hid (show EnvAt E w Fa Ca Aa from ⟨hF, hC, hr⟩)
  have HT := Lib.hid hT
  have hfl := lt_of_cell f2
  have hii : (i : Int) < (fs.length : Int) := by omega
  have hf1 : bm < w.heap.size + 1 := by omega
  have hf2 : bm < w.heap.size + 1 + 1 := by omega
  have hf3 : bm < w.heap.size + 1 + 1 + 1 := by omega
  have hb1 : ¬ bm = w.heap.size := by omega
  have hb2 : ¬ bm = w.heap.size + 1 := by omega
  have hb3 : ¬ bm = w.heap.size + 2 := by omega
  have hb4 : ¬ bm = w.heap.size + 1 + 1 := by omega
  clear hM hE hF hC hr hT f0 f1 f3 f4
  go_enter Tryz.func10, Tryz.ntmps10
  go_wp2_with (go_at_call 22; refine (HX.out _ _).mono ?_; rintro e w1 ⟨rfl, rfl⟩)
  go_region_held3 (fun w' => World.cell? w' ⟨w.heap.size, 0, none⟩ = some (.string s0) ∧ World.cell? w' ⟨w.heap.size, 1, none⟩ = some (.int .i64 z1) ∧ World.cell? w' ⟨w.heap.size, 2, none⟩ = some (.slice Fa E.files.length fc) ∧ World.cell? w' ⟨w.heap.size, 3, none⟩ = some (.slice B3 l3 c3) ∧ World.cell? w' ⟨w.heap.size, 4, none⟩ = some (.slice Ga E.nflags gc) ∧ World.cell? w' ⟨w.heap.size, 5, none⟩ = some (.slice Ca E.classes.length cc) ∧ World.cell? w' ⟨w.heap.size, 6, none⟩ = some (.slice (some ⟨bm, om, none⟩) fs.length mc) ∧ World.cell? w' ⟨w.heap.size, 7, none⟩ = some (.slice B7 l7 c7) ∧ World.cell? w' ⟨w.heap.size, 8, none⟩ = some (.slice B8 l8 c8) ∧ World.cell? w' ⟨w.heap.size, 9, none⟩ = some (.slice B9 l9 c9) ∧ World.cell? w' ⟨w.heap.size, 10, none⟩ = some (.slice B10 l10 c10) ∧ World.cell? w' ⟨w.heap.size, 11, none⟩ = some (.slice B11 l11 c11) ∧ World.cell? w' ⟨w.heap.size, 12, none⟩ = some (.slice B12 l12 c12) ∧ World.cell? w' ⟨bm, om + i * 5 + 2, none⟩ = some (.slice Aa E.args.length ac)) (first | (simp [go_sem, *]; done) | (refine ⟨?_, ?_, ?_, ?_, ?_, ?_, ?_, ?_, ?_, ?_, ?_, ?_, ?_, ?_⟩ <;> first | (simp [go_sem, *]; done) | (refine Fr.get (w := w) ?_ f2; repeat (first | with_reducible exact Fr.refl _ | with_reducible apply Fr.drewN | with_reducible apply Fr.drew | with_reducible apply Fr.alloc | (with_reducible refine Fr.set ?_ (by simp) _))))) (fail)
  rename_i hHeld
  clear hHeld
  have HF3 := Lib.hid (show Fr w (((w.alloc (.cells #[.string s0, .int .i64 z1, .slice Fa E.files.length fc, .slice B3 l3 c3, .slice Ga E.nflags gc, .slice Ca E.classes.length cc, .slice (some ⟨bm, om, none⟩) fs.length mc, .slice B7 l7 c7, .slice B8 l8 c8, .slice B9 l9 c9, .slice B10 l10 c10, .slice B11 l11 c11, .slice B12 l12 c12] 34)).alloc (.cells #[.int .i64 op, .int .i64 wd, .int .i64 a, .int .i64 b, .slice A ks.length c] 42)).alloc (.cells #[.string s0, .int .i64 z1, .slice Fa E.files.length fc, .slice B3 l3 c3, .slice Ga E.nflags gc, .slice Ca E.classes.length cc, .slice (some ⟨bm, om, none⟩) fs.length mc, .slice B7 l7 c7, .slice B8 l8 c8, .slice B9 l9 c9, .slice B10 l10 c10, .slice B11 l11 c11, .slice B12 l12 c12, .slice Aa E.args.length ac] 71)).drew from Fr.drew (Fr.alloc (Fr.alloc (Fr.alloc (Fr.refl w) _) _) _))
  have HB3 := Lib.hid (show BlkAt (((w.alloc (.cells #[.string s0, .int .i64 z1, .slice Fa E.files.length fc, .slice B3 l3 c3, .slice Ga E.nflags gc, .slice Ca E.classes.length cc, .slice (some ⟨bm, om, none⟩) fs.length mc, .slice B7 l7 c7, .slice B8 l8 c8, .slice B9 l9 c9, .slice B10 l10 c10, .slice B11 l11 c11, .slice B12 l12 c12] 34)).alloc (.cells #[.int .i64 op, .int .i64 wd, .int .i64 a, .int .i64 b, .slice A ks.length c] 42)).alloc (.cells #[.string s0, .int .i64 z1, .slice Fa E.files.length fc, .slice B3 l3 c3, .slice Ga E.nflags gc, .slice Ca E.classes.length cc, .slice (some ⟨bm, om, none⟩) fs.length mc, .slice B7 l7 c7, .slice B8 l8 c8, .slice B9 l9 c9, .slice B10 l10 c10, .slice B11 l11 c11, .slice B12 l12 c12, .slice Aa E.args.length ac] 71)).drew (w.heap.size + 1 + 1) [.string s0, .int .i64 z1, .slice Fa E.files.length fc, .slice B3 l3 c3, .slice Ga E.nflags gc, .slice Ca E.classes.length cc, .slice (some ⟨bm, om, none⟩) fs.length mc, .slice B7 l7 c7, .slice B8 l8 c8, .slice B9 l9 c9, .slice B10 l10 c10, .slice B11 l11 c11, .slice B12 l12 c12, .slice Aa E.args.length ac] from BlkAt.fr (by have := BlkAt.alloc (w := ((w.alloc (.cells #[.string s0, .int .i64 z1, .slice Fa E.files.length fc, .slice B3 l3 c3, .slice Ga E.nflags gc, .slice Ca E.classes.length cc, .slice (some ⟨bm, om, none⟩) fs.length mc, .slice B7 l7 c7, .slice B8 l8 c8, .slice B9 l9 c9, .slice B10 l10 c10, .slice B11 l11 c11, .slice B12 l12 c12] 34)).alloc (.cells #[.int .i64 op, .int .i64 wd, .int .i64 a, .int .i64 b, .slice A ks.length c] 42))) (t := 71) (cs := #[.string s0, .int .i64 z1, .slice Fa E.files.length fc, .slice B3 l3 c3, .slice Ga E.nflags gc, .slice Ca E.classes.length cc, .slice (some ⟨bm, om, none⟩) fs.length mc, .slice B7 l7 c7, .slice B8 l8 c8, .slice B9 l9 c9, .slice B10 l10 c10, .slice B11 l11 c11, .slice B12 l12 c12, .slice Aa E.args.length ac]); simpa using this) (Fr.drew (Fr.refl _)))
  have HBT := Lib.hid (show BlkAt ((((w.alloc (.cells #[.string s0, .int .i64 z1, .slice Fa E.files.length fc, .slice B3 l3 c3, .slice Ga E.nflags gc, .slice Ca E.classes.length cc, .slice (some ⟨bm, om, none⟩) fs.length mc, .slice B7 l7 c7, .slice B8 l8 c8, .slice B9 l9 c9, .slice B10 l10 c10, .slice B11 l11 c11, .slice B12 l12 c12] 34))).alloc (.cells #[.int .i64 op, .int .i64 wd, .int .i64 a, .int .i64 b, .slice A ks.length c] 42)).alloc (.cells #[.string s0, .int .i64 z1, .slice Fa E.files.length fc, .slice B3 l3 c3, .slice Ga E.nflags gc, .slice Ca E.classes.length cc, .slice (some ⟨bm, om, none⟩) fs.length mc, .slice B7 l7 c7, .slice B8 l8 c8, .slice B9 l9 c9, .slice B10 l10 c10, .slice B11 l11 c11, .slice B12 l12 c12, .slice Aa E.args.length ac] 71)).drew (w.heap.size + 1) [.int .i64 op, .int .i64 wd, .int .i64 a, .int .i64 b, .slice A ks.length c] from BlkAt.fr (by have := BlkAt.alloc (w := (w.alloc (.cells #[.string s0, .int .i64 z1, .slice Fa E.files.length fc, .slice B3 l3 c3, .slice Ga E.nflags gc, .slice Ca E.classes.length cc, .slice (some ⟨bm, om, none⟩) fs.length mc, .slice B7 l7 c7, .slice B8 l8 c8, .slice B9 l9 c9, .slice B10 l10 c10, .slice B11 l11 c11, .slice B12 l12 c12] 34))) (t := 42) (cs := #[.int .i64 op, .int .i64 wd, .int .i64 a, .int .i64 b, .slice A ks.length c]); simpa using this) (Fr.drew (Fr.alloc (Fr.refl _) _)))
  generalize World.drew _ = W3 at *
  have t0 := HBT.out 0 _ rfl
  have t1 := HBT.out 1 _ rfl
  have t2 := HBT.out 2 _ rfl
  have t3 := HBT.out 3 _ rfl
  have t4 := HBT.out 4 _ rfl
  go_wp2_with (go_at_call 23; refine (width_any HB3.out (HEn.out.fr HF3.out) op wd a b ks A c (HT.out.fr HF3.out)).mono ?_; rintro e w4 ⟨rfl, hf4⟩; have HF4 := Lib.hid hf4; clear hf4)
  go_ret
  exact ⟨ret_int rfl, HF3.out.call HF4.out⟩
end
end Go.Proofs.YtcndmiolaheaeabGreatDoor
