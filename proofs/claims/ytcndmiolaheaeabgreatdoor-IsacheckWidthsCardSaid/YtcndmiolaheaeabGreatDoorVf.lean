/- The width of a register that a term names, where its file is there. -/
import Derived.Test.YtcndmiolaheaeabGreatDoorVe
import Derived.Deep.RegionHeld3
import Derived.Laws.BitsLemmas
namespace Go.Proofs.YtcndmiolaheaeabGreatDoor
open Go.RowKit
set_option linter.unusedSimpArgs false
set_option linter.unusedVariables false

section
variable {E : Env} {w : World} {Fa Ca Aa Ga Ma : Option Addr} {sb : Nat} {n0 n1 n3 n7 n8 n9 n10 n11 n12 : Value} {fc gc cc ml mc ac : Nat}
set_option maxHeartbeats 6400000 in
theorem regw_pre (S : BlkAt w sb [n0, n1, .slice Fa E.files.length fc, n3, .slice Ga E.nflags gc, .slice Ca E.classes.length cc, .slice Ma ml mc, n7, n8, n9, n10, n11, n12, .slice Aa E.args.length ac])
    (hE : EnvAt E w Fa Ca Aa) (op wd a b : Int) (K : Option Addr) (kl kc : Nat) {f : Int × Int × Int} (hf : fileO E a = some f) :
    Calls Tryz.prog 93 #[.pointer (some ⟨sb, 0, none⟩), .agg #[.int .i64 op, .int .i64 wd, .int .i64 a, .int .i64 b, .slice K kl kc]] w fun e w' => e = .returned (.int .i64 (regW E a b)) ∧ Fr w w' := by
  have HS := Lib.hid S
  have HE := Lib.hid hE
  have HN := Lib.hid (show (fileO E a).isSome = true by rw [hf]; rfl)
  obtain ⟨j, hj, rfl, he, hfb⟩ := fileO_file hf
  obtain ⟨g, o, rfl, n, h0, h1, h2, h3⟩ := hE.files.at hj
  rw [Nat.mul_comm 4 j] at h0 h1 h2 h3
  rw [he] at h1 h2 h3
  have hji : (j : Int) < (E.files.length : Int) := by omega
  have H0 := Lib.hid h0
  have H1 := Lib.hid h1
  have H2 := Lib.hid h2
  have H3 := Lib.hid h3
  have HFI := Lib.hid hf
  have hng : IntKind.i64.wrap (-f.1) = -f.1 := by
    have h := hfb
    simp only [fileB, Bool.and_eq_true, decide_eq_true_eq] at h
    rw [IntKind.wrap_i64]; omega
  clear S hE hf h0 h1 h2 h3 he
  go_enter Tryz.func93, Tryz.ntmps93
  go_wp2
  have HB := Lib.hid (BlkAt.alloc (w := w) (t := 42) (cs := #[.int .i64 op, .int .i64 wd, .int .i64 (j : Int), .int .i64 b, .slice K kl kc]))
  have HF := Lib.hid (Fr.alloc (Fr.refl w) (.cells #[.int .i64 op, .int .i64 wd, .int .i64 (j : Int), .int .i64 b, .slice K kl kc] 42))
  generalize hw1 : World.alloc w _ = w1 at *
  have a0 := fun ex : Ext w1 => ex.get (HF.out.get (HS.out 0 _ rfl))
  have a1 := fun ex : Ext w1 => ex.get (HF.out.get (HS.out 1 _ rfl))
  have a2 := fun ex : Ext w1 => ex.get (HF.out.get (HS.out 2 _ rfl))
  have a3 := fun ex : Ext w1 => ex.get (HF.out.get (HS.out 3 _ rfl))
  have a4 := fun ex : Ext w1 => ex.get (HF.out.get (HS.out 4 _ rfl))
  have a5 := fun ex : Ext w1 => ex.get (HF.out.get (HS.out 5 _ rfl))
  have a6 := fun ex : Ext w1 => ex.get (HF.out.get (HS.out 6 _ rfl))
  have a7 := fun ex : Ext w1 => ex.get (HF.out.get (HS.out 7 _ rfl))
  have a8 := fun ex : Ext w1 => ex.get (HF.out.get (HS.out 8 _ rfl))
  have a9 := fun ex : Ext w1 => ex.get (HF.out.get (HS.out 9 _ rfl))
  have a10 := fun ex : Ext w1 => ex.get (HF.out.get (HS.out 10 _ rfl))
  have a11 := fun ex : Ext w1 => ex.get (HF.out.get (HS.out 11 _ rfl))
  have a12 := fun ex : Ext w1 => ex.get (HF.out.get (HS.out 12 _ rfl))
  have b2 := fun ex : Ext w1 => ex.get (HB.out 2 _ rfl)
  have HC := Lib.hid (show ∀ ex : Ext w1, Calls Tryz.prog 48 #[.agg #[n0, n1, .slice (some ⟨g, o, none⟩) E.files.length fc, n3, .slice Ga E.nflags gc, .slice Ca E.classes.length cc, .slice Ma ml mc, n7, n8, n9, n10, n11, n12], .int .i64 (j : Int)] ex.world (fun e w' => e = .returned (.bool true) ∧ Fr ex.world w') from
    fun ex => HN.out ▸ fileRight_any (HE.out.fr (HF.out.call ex.fr)) (j : Int) n0 n1 n3 n7 n8 n9 n10 n11 n12 fc gc cc ml mc)
  refine wp_region_ext (by kernel_rfl) (by kernel_rfl) ?_
  repeat (go_big_quiet_step ((go_at_call 48; exact ext_of (HC.out _))))
  refine wpQuiet_nil ?_
  intro w4 hw4
  obtain ⟨y4, hy4⟩ := hw4
  have hb4 : Fr w1 w4 := by rw [hy4]; exact y4.fr
  clear hy4 y4
  have a2 := hb4.get (HF.out.get (HS.out 2 _ rfl))
  have h0 := hb4.get (HF.out.get H0.out)
  have h1 := hb4.get (HF.out.get H1.out)
  have h2 := hb4.get (HF.out.get H2.out)
  have h3 := hb4.get (HF.out.get H3.out)
  have b2 := hb4.get (HB.out 2 _ rfl)
  have b3 := hb4.get (HB.out 3 _ rfl)
  clear a0 a1 a3 a4 a5 a6 a7 a8 a9 a10 a11 a12
  have zg := lt_of_cell h0
  have zs := lt_of_cell a2
  have zt := lt_of_cell b2
  go_wp2
  go_region_held3 (fun w' => World.cell? w' ⟨sb, 2, none⟩ = some (.slice (some ⟨g, o, none⟩) E.files.length fc) ∧ World.cell? w' ⟨w.heap.size, 2, none⟩ = some (.int .i64 (j : Int)) ∧ World.cell? w' ⟨g, o + j * 4, none⟩ = some (.string n) ∧ World.cell? w' ⟨g, o + j * 4 + 1, none⟩ = some (.int .i64 f.1) ∧ World.cell? w' ⟨g, o + j * 4 + 2, none⟩ = some (.int .i64 f.2.1) ∧ World.cell? w' ⟨g, o + j * 4 + 3, none⟩ = some (.int .i64 f.2.2)) (simp [go_sem, *]) (fail)
  have F5 : Fr w (World.drew (World.alloc w4 (.cells #[.string n, .int .i64 f.1, .int .i64 f.2.1, .int .i64 f.2.2] 138))) := Fr.drew (Fr.alloc (HF.out.call hb4) _)
  have G5 : BlkAt (World.drew (World.alloc w4 (.cells #[.string n, .int .i64 f.1, .int .i64 f.2.1, .int .i64 f.2.2] 138))) w4.heap.size [.string n, .int .i64 f.1, .int .i64 f.2.1, .int .i64 f.2.2] := BlkAt.fr BlkAt.alloc (Fr.drew (Fr.refl _))
  have T5 : BlkAt (World.drew (World.alloc w4 (.cells #[.string n, .int .i64 f.1, .int .i64 f.2.1, .int .i64 f.2.2] 138))) w.heap.size [.int .i64 op, .int .i64 wd, .int .i64 (j : Int), .int .i64 b, .slice K kl kc] := HB.out.fr (hb4.call (Fr.drew (Fr.alloc (Fr.refl _) _)))
  generalize World.drew _ = w5 at *
  clear a2 h0 h1 h2 h3 b3 zg zs zt
  have g1 := G5 1 _ rfl
  have g2 := G5 2 _ rfl
  have t2 := T5 2 _ rfl
  have t3 := T5 3 _ rfl
  have HF5 := Lib.hid F5
  have z1 := lt_of_cell g1
  have z2 := lt_of_cell t2
  cases hc : clsO E b with
  | none =>
    have HR := Lib.hid (show regW E (j : Int) b = if b < 0 ∧ -f.1 ≤ b then f.2.1 else 0 by simp [regW, HFI.out, hc])
    have HCO := Lib.hid (classOf_none (HF5.out.get (HS.out 5 _ rfl)) (HF5.out.get (HS.out 13 _ rfl)) (HE.out.fr HF5.out) b hc)
    clear G5 T5 F5 hc
    go_wp2_with (go_at_call 94; refine HCO.out.mono ?_; rintro e w6 ⟨rfl, hf6⟩; have HF6 := Lib.hid hf6; have g1' := hf6.get g1; have g2' := hf6.get g2; have t2' := hf6.get t2; have t3' := hf6.get t3; have z1' := lt_of_cell g1'; have z2' := lt_of_cell t2'; clear hf6; unfold noClass)
    all_goals (go_ret; exact ⟨ret_int (by rw [HR.out]; split <;> simp_all <;> omega), Fr.alloc (HF5.out.call HF6.out) _⟩)
  | some c =>
    have HR := Lib.hid (show regW E (j : Int) b = if c = (1, (j : Int)) then f.2.1 else if b < 0 ∧ -f.1 ≤ b then f.2.1 else 0 by simp [regW, HFI.out, hc])
    have HCO := Lib.hid (classOf_some (HF5.out.get (HS.out 5 _ rfl)) (HF5.out.get (HS.out 13 _ rfl)) (HE.out.fr HF5.out) b hc)
    clear G5 T5 F5 hc
    obtain ⟨c1, c2⟩ := c
    go_wp2_with (go_at_call 94; refine HCO.out.mono ?_; rintro e w6 ⟨⟨m0, m1, m2, m3, m4, m5, m6, rfl⟩, hf6⟩; have HF6 := Lib.hid hf6; have g1' := hf6.get g1; have g2' := hf6.get g2; have t2' := hf6.get t2; have t3' := hf6.get t3; have z1' := lt_of_cell g1'; have z2' := lt_of_cell t2'; clear hf6)
    all_goals (go_ret; exact ⟨ret_int (by rw [HR.out]; split <;> simp_all <;> omega), Fr.alloc (HF5.out.call HF6.out) _⟩)
end
end Go.Proofs.YtcndmiolaheaeabGreatDoor
