/- Classes: are they right? The class at a place: is it there, and right? A form's operands: are they right? A bit of a piece is laid at a place: of the program. A form's effects, of the program: an effect of one kind. Relocations' small tests. Formulas: are they right? -/
import Derived.Test.YtdipnhghdajplaaGreatDoorP22
import Derived.Test.YtdipnhghdajplaaGreatDoorP07
import Derived.Deep.RegionHeld3
import Derived.Deep.QuietTactic
namespace Go.Proofs.YtdipnhghdajplaaGreatDoor
open Go.RowKit
set_option linter.unusedSimpArgs false
set_option linter.unusedVariables false

set_option maxHeartbeats 6400000 in
theorem numbersRight_any (n0 : ByteArray) (kd fi bi sh pl : Int) (A : Option Addr) (l c : Nat) (ex : List Int) (most : Int) (h0 : 0 ≤ most) (h1 : most ≤ 64) (w : World) :
    Calls Tryz.prog 78 #[.agg #[.string n0, .int .i64 kd, .int .i64 fi, .int .i64 bi, .int .i64 sh, .int .i64 pl, .slice A l c], .int .i64 most] w fun e w' => e = .returned (.bool (numB ⟨kd, fi, bi, sh, pl, ex⟩ most)) ∧ Fr w w' := by
  go_enter Tryz.func78, Tryz.ntmps78
  go_wp2
  all_goals (go_ret; exact ⟨bool_iff (by simp [numB]; omega), Fr.alloc (Fr.refl w) _⟩)
theorem fileD_file {D : Ds} {a : Int} {f : Int × Int × Int} (h : fileD D a = some f) : ∃ j : Nat, ∃ hj : j < D.files.length, a = j ∧ D.files[j] = f ∧ fileB f = true :=
  fileO_file (E := D.env []) h
set_option maxHeartbeats 12800000 in
set_option maxRecDepth 100000 in
theorem registersRight_any {w : World} {D : Ds} {v : Array Value} (hD : DescAt w D v) (n0 : ByteArray) (kd fi bi sh pl : Int) (A : Option Addr) (l c : Nat) (ex : List Int) (hpl : I64 pl) :
    Calls Tryz.prog 77 #[.agg v, .agg #[.string n0, .int .i64 kd, .int .i64 fi, .int .i64 bi, .int .i64 sh, .int .i64 pl, .slice A l c]] w fun e w' => e = .returned (.bool (regB D ⟨kd, fi, bi, sh, pl, ex⟩)) ∧ Fr w w' := by
  obtain ⟨s0, Fa, Ba, Ga, Ca, Ma, Ra, Ua, Xa, Ka, Na, Pa, fc, bc, gc, cc, mc, rc, uc, xc, kc, nl, nc, pc, rfl, h1, h2, h3, h4, h5, h6, h7, h8, h9⟩ := hD
  have HFR := Lib.hid (fun w1 (k : Fr w w1) => fileRight_any (E := D.env []) (Aa := none) (Ga := Ga) (Ma := Ma) (env_at (h1.fr fun _ _ _ x => x.fr k) (h3.fr fun _ _ _ x => x.fr k) (fun hl => absurd hl (by simp))) fi (.string s0) (.int .i64 D.order) (.slice Ba D.als.length bc) (.slice Ra D.rels.length rc) (.slice Ua D.uses.length uc) (.slice Xa D.rxs.length xc) (.slice Ka D.mcs.length kc) (.slice Na nl nc) (.slice Pa D.regs.length pc) fc gc cc D.fms.length mc)
  simp only [Ds.env, List.length_map] at HFR
  have HB := Lib.hid (show BlkAt ((w.alloc (.cells #[.string s0, .int .i64 D.order, .slice Fa D.files.length fc, .slice Ba D.als.length bc, .slice Ga D.nflags gc, .slice Ca D.cls.length cc, .slice Ma D.fms.length mc, .slice Ra D.rels.length rc, .slice Ua D.uses.length uc, .slice Xa D.rxs.length xc, .slice Ka D.mcs.length kc, .slice Na nl nc, .slice Pa D.regs.length pc] 33)).alloc (.cells #[.string n0, .int .i64 kd, .int .i64 fi, .int .i64 bi, .int .i64 sh, .int .i64 pl, .slice A l c] 64)) w.heap.size [.string s0, .int .i64 D.order, .slice Fa D.files.length fc, .slice Ba D.als.length bc, .slice Ga D.nflags gc, .slice Ca D.cls.length cc, .slice Ma D.fms.length mc, .slice Ra D.rels.length rc, .slice Ua D.uses.length uc, .slice Xa D.rxs.length xc, .slice Ka D.mcs.length kc, .slice Na nl nc, .slice Pa D.regs.length pc] from BlkAt.fr (by have := BlkAt.alloc (w := w) (t := 33) (cs := #[.string s0, .int .i64 D.order, .slice Fa D.files.length fc, .slice Ba D.als.length bc, .slice Ga D.nflags gc, .slice Ca D.cls.length cc, .slice Ma D.fms.length mc, .slice Ra D.rels.length rc, .slice Ua D.uses.length uc, .slice Xa D.rxs.length xc, .slice Ka D.mcs.length kc, .slice Na nl nc, .slice Pa D.regs.length pc]); simpa using this) (Fr.alloc (Fr.refl _) _))
  have HC := Lib.hid (show BlkAt ((w.alloc (.cells #[.string s0, .int .i64 D.order, .slice Fa D.files.length fc, .slice Ba D.als.length bc, .slice Ga D.nflags gc, .slice Ca D.cls.length cc, .slice Ma D.fms.length mc, .slice Ra D.rels.length rc, .slice Ua D.uses.length uc, .slice Xa D.rxs.length xc, .slice Ka D.mcs.length kc, .slice Na nl nc, .slice Pa D.regs.length pc] 33)).alloc (.cells #[.string n0, .int .i64 kd, .int .i64 fi, .int .i64 bi, .int .i64 sh, .int .i64 pl, .slice A l c] 64)) (w.heap.size + 1) [.string n0, .int .i64 kd, .int .i64 fi, .int .i64 bi, .int .i64 sh, .int .i64 pl, .slice A l c] from (by have := BlkAt.alloc (w := (w.alloc (.cells #[.string s0, .int .i64 D.order, .slice Fa D.files.length fc, .slice Ba D.als.length bc, .slice Ga D.nflags gc, .slice Ca D.cls.length cc, .slice Ma D.fms.length mc, .slice Ra D.rels.length rc, .slice Ua D.uses.length uc, .slice Xa D.rxs.length xc, .slice Ka D.mcs.length kc, .slice Na nl nc, .slice Pa D.regs.length pc] 33))) (t := 64) (cs := #[.string n0, .int .i64 kd, .int .i64 fi, .int .i64 bi, .int .i64 sh, .int .i64 pl, .slice A l c]); simpa using this))
  have HF0 := Lib.hid (show Fr w ((w.alloc (.cells #[.string s0, .int .i64 D.order, .slice Fa D.files.length fc, .slice Ba D.als.length bc, .slice Ga D.nflags gc, .slice Ca D.cls.length cc, .slice Ma D.fms.length mc, .slice Ra D.rels.length rc, .slice Ua D.uses.length uc, .slice Xa D.rxs.length xc, .slice Ka D.mcs.length kc, .slice Na nl nc, .slice Pa D.regs.length pc] 33)).alloc (.cells #[.string n0, .int .i64 kd, .int .i64 fi, .int .i64 bi, .int .i64 sh, .int .i64 pl, .slice A l c] 64)) from Fr.alloc (Fr.alloc (Fr.refl w) _) _)
  have HFI := Lib.hid h1
  clear h1 h2 h3 h4 h5 h6 h7 h8 h9
  have hfo : fileO { files := D.files, classes := D.cls.map fun c => (c.kind, c.file), nflags := D.nflags, args := [] } fi = fileD D fi := rfl
  rw [hfo] at HFR
  clear hfo
  cases hfd : fileD D fi with
  | none =>
    rw [hfd] at HFR
    have HR := Lib.hid (show regB D ⟨kd, fi, bi, sh, pl, ex⟩ = false by simp [regB, hfd])
    clear hfd
    go_enter Tryz.func77, Tryz.ntmps77
    go_wp2_with (go_at_call 45; refine (HFR.out _ HF0.out).mono ?_; rintro e w4 ⟨rfl, hf4⟩; have HF4 := Lib.hid hf4; clear hf4; have a0 := HB.out.fr HF4.out 0 _ rfl; have a1 := HB.out.fr HF4.out 1 _ rfl; have a2 := HB.out.fr HF4.out 2 _ rfl; have a3 := HB.out.fr HF4.out 3 _ rfl; have a4 := HB.out.fr HF4.out 4 _ rfl; have a5 := HB.out.fr HF4.out 5 _ rfl; have a6 := HB.out.fr HF4.out 6 _ rfl; have a7 := HB.out.fr HF4.out 7 _ rfl; have a8 := HB.out.fr HF4.out 8 _ rfl; have a9 := HB.out.fr HF4.out 9 _ rfl; have a10 := HB.out.fr HF4.out 10 _ rfl; have a11 := HB.out.fr HF4.out 11 _ rfl; have a12 := HB.out.fr HF4.out 12 _ rfl; have b0 := HC.out.fr HF4.out 0 _ rfl; have b1 := HC.out.fr HF4.out 1 _ rfl; have b2 := HC.out.fr HF4.out 2 _ rfl; have b3 := HC.out.fr HF4.out 3 _ rfl; have b4 := HC.out.fr HF4.out 4 _ rfl; have b5 := HC.out.fr HF4.out 5 _ rfl; have b6 := HC.out.fr HF4.out 6 _ rfl)
    go_ret
    exact ⟨ret_bool (by rw [HR.out]), HF0.out.call HF4.out⟩
  | some f =>
    rw [hfd] at HFR
    obtain ⟨k, hk, rfl, hkf, hfb⟩ := fileD_file hfd
    obtain ⟨bf, of, rfl, nf, g0, g1, g2, g3⟩ := HFI.out.at hk
    rw [Nat.mul_comm 4 k] at g0 g1
    rw [hkf] at g1
    have hki : (k : Int) < (D.files.length : Int) := by omega
    have hfl := lt_of_cell g0
    obtain ⟨f1, f2, f3⟩ := f
    have hf1 : 1 ≤ f1 ∧ f1 ≤ 64 := by simp [fileB] at hfb; omega
    have HR := Lib.hid (show regB D ⟨kd, (k : Int), bi, sh, pl, ex⟩ = (decide (1 ≤ bi) && decide (bi ≤ 6) && decide (sh = 0) && decide (0 ≤ pl) && decide (pl ≤ f1 - 2 ^ bi.toNat)) by simp [regB, hfd])
    have HG := Lib.hid g1
    clear hfd hkf hfb g0 g1 g2 g3 HFI
    by_cases ht : 1 ≤ bi ∧ bi ≤ 6 ∧ sh = 0 ∧ 0 ≤ pl
    · obtain ⟨t1, t2, t3, t4⟩ := ht
      subst t3
      have q1 : decide (bi < 1) = false := by simp; omega
      have q2 : decide (6 < bi) = false := by simp; omega
      have q3 : ((0 : Int) != 0) = false := rfl
      have q4 : decide (pl < 0) = false := by simp; omega
      have hsh : IntKind.i64.wrap (1 * 2 ^ bi.toNat) = 2 ^ bi.toNat := by
        have : bi = 1 ∨ bi = 2 ∨ bi = 3 ∨ bi = 4 ∨ bi = 5 ∨ bi = 6 := by omega
        rcases this with rfl | rfl | rfl | rfl | rfl | rfl <;> decide
      have hp : (0 : Int) < 2 ^ bi.toNat ∧ (2 : Int) ^ bi.toNat ≤ 64 := by
        have : bi = 1 ∨ bi = 2 ∨ bi = 3 ∨ bi = 4 ∨ bi = 5 ∨ bi = 6 := by omega
        rcases this with rfl | rfl | rfl | rfl | rfl | rfl <;> decide
      have hw2 : IntKind.i64.wrap (f1 - 2 ^ bi.toNat) = f1 - 2 ^ bi.toNat := by rw [IntKind.wrap_i64]; omega
      go_enter Tryz.func77, Tryz.ntmps77
      go_wp2_with (go_at_call 45; refine (HFR.out _ HF0.out).mono ?_; rintro e w4 ⟨rfl, hf4⟩; have HF4 := Lib.hid hf4; clear hf4; have a0 := HB.out.fr HF4.out 0 _ rfl; have a1 := HB.out.fr HF4.out 1 _ rfl; have a2 := HB.out.fr HF4.out 2 _ rfl; have a3 := HB.out.fr HF4.out 3 _ rfl; have a4 := HB.out.fr HF4.out 4 _ rfl; have a5 := HB.out.fr HF4.out 5 _ rfl; have a6 := HB.out.fr HF4.out 6 _ rfl; have a7 := HB.out.fr HF4.out 7 _ rfl; have a8 := HB.out.fr HF4.out 8 _ rfl; have a9 := HB.out.fr HF4.out 9 _ rfl; have a10 := HB.out.fr HF4.out 10 _ rfl; have a11 := HB.out.fr HF4.out 11 _ rfl; have a12 := HB.out.fr HF4.out 12 _ rfl; have b0 := HC.out.fr HF4.out 0 _ rfl; have b1 := HC.out.fr HF4.out 1 _ rfl; have b2 := HC.out.fr HF4.out 2 _ rfl; have b3 := HC.out.fr HF4.out 3 _ rfl; have b4 := HC.out.fr HF4.out 4 _ rfl; have b5 := HC.out.fr HF4.out 5 _ rfl; have b6 := HC.out.fr HF4.out 6 _ rfl; have g1 := (HF0.out.call HF4.out).get HG.out)
      go_quiet (fail)
      go_wp2
      go_ret
      exact ⟨bool_iff (by rw [HR.out]; simp; omega), Fr.drewN (HF0.out.call HF4.out) _⟩
    · have HR0 := Lib.hid (show regB D ⟨kd, (k : Int), bi, sh, pl, ex⟩ = false by rw [HR.out]; simp; omega)
      clear HR HG
      have ht2 : bi < 1 ∨ 6 < bi ∨ sh ≠ 0 ∨ pl < 0 := by omega
      clear ht
      go_enter Tryz.func77, Tryz.ntmps77
      go_wp2_with (go_at_call 45; refine (HFR.out _ HF0.out).mono ?_; rintro e w4 ⟨rfl, hf4⟩; have HF4 := Lib.hid hf4; clear hf4; have a0 := HB.out.fr HF4.out 0 _ rfl; have a1 := HB.out.fr HF4.out 1 _ rfl; have a2 := HB.out.fr HF4.out 2 _ rfl; have a3 := HB.out.fr HF4.out 3 _ rfl; have a4 := HB.out.fr HF4.out 4 _ rfl; have a5 := HB.out.fr HF4.out 5 _ rfl; have a6 := HB.out.fr HF4.out 6 _ rfl; have a7 := HB.out.fr HF4.out 7 _ rfl; have a8 := HB.out.fr HF4.out 8 _ rfl; have a9 := HB.out.fr HF4.out 9 _ rfl; have a10 := HB.out.fr HF4.out 10 _ rfl; have a11 := HB.out.fr HF4.out 11 _ rfl; have a12 := HB.out.fr HF4.out 12 _ rfl; have b0 := HC.out.fr HF4.out 0 _ rfl; have b1 := HC.out.fr HF4.out 1 _ rfl; have b2 := HC.out.fr HF4.out 2 _ rfl; have b3 := HC.out.fr HF4.out 3 _ rfl; have b4 := HC.out.fr HF4.out 4 _ rfl; have b5 := HC.out.fr HF4.out 5 _ rfl; have b6 := HC.out.fr HF4.out 6 _ rfl)
      all_goals first
        | (go_ret; exact ⟨ret_bool (by rw [HR0.out]), HF0.out.call HF4.out⟩)
        | (exfalso; simp_all; omega)
end Go.Proofs.YtdipnhghdajplaaGreatDoor
namespace Go.Proofs.YtdipnhghdajplaaGreatDoor
open Go.RowKit
set_option linter.unusedSimpArgs false
set_option linter.unusedVariables false

theorem clsAtB_no {D : Ds} {x : Int} (h : plB x D.cls.length = false) : clsAtB D x = false := by
  unfold clsAtB
  by_cases h0 : 0 ≤ x
  · rw [if_pos h0, List.getElem?_eq_none (by simp [plB, h0] at h; omega)]
  · rw [if_neg h0]
theorem clsAtB_at {D : Ds} {k : Nat} (h : k < D.cls.length) : clsAtB D (k : Int) = clsB D D.cls[k] := by
  unfold clsAtB
  rw [if_pos (by omega)]
  simp [h]
set_option maxHeartbeats 12800000 in
set_option maxRecDepth 100000 in
theorem classRight_any {w : World} {D : Ds} {v : Array Value} (hD : DescAt w D v) (x : Int) :
    Calls Tryz.prog 46 #[.agg v, .int .i64 x] w fun e w' => e = .returned (.bool (clsAtB D x)) ∧ Fr w w' := by
  have HD := Lib.hid hD
  obtain ⟨s0, Fa, Ba, Ga, Ca, Ma, Ra, Ua, Xa, Ka, Na, Pa, fc, bc, gc, cc, mc, rc, uc, xc, kc, nl, nc, pc, rfl, h1, h2, h3, h4, h5, h6, h7, h8, h9⟩ := hD
  have HB := Lib.hid (show BlkAt (w.alloc (.cells #[.string s0, .int .i64 D.order, .slice Fa D.files.length fc, .slice Ba D.als.length bc, .slice Ga D.nflags gc, .slice Ca D.cls.length cc, .slice Ma D.fms.length mc, .slice Ra D.rels.length rc, .slice Ua D.uses.length uc, .slice Xa D.rxs.length xc, .slice Ka D.mcs.length kc, .slice Na nl nc, .slice Pa D.regs.length pc] 33)) w.heap.size [.string s0, .int .i64 D.order, .slice Fa D.files.length fc, .slice Ba D.als.length bc, .slice Ga D.nflags gc, .slice Ca D.cls.length cc, .slice Ma D.fms.length mc, .slice Ra D.rels.length rc, .slice Ua D.uses.length uc, .slice Xa D.rxs.length xc, .slice Ka D.mcs.length kc, .slice Na nl nc, .slice Pa D.regs.length pc] from BlkAt.alloc)
  have HF0 := Lib.hid (show Fr w (w.alloc (.cells #[.string s0, .int .i64 D.order, .slice Fa D.files.length fc, .slice Ba D.als.length bc, .slice Ga D.nflags gc, .slice Ca D.cls.length cc, .slice Ma D.fms.length mc, .slice Ra D.rels.length rc, .slice Ua D.uses.length uc, .slice Xa D.rxs.length xc, .slice Ka D.mcs.length kc, .slice Na nl nc, .slice Pa D.regs.length pc] 33)) from Fr.alloc (Fr.refl w) _)
  cases hp : plB x D.cls.length with
  | false =>
    have HP := Lib.hid (fun A c w => hp ▸ classPlace_any x A D.cls.length c w)
    have HR := Lib.hid (clsAtB_no hp)
    clear hp h1 h2 h3 h4 h5 h6 h7 h8 h9
    go_enter Tryz.func46, Tryz.ntmps46
    go_wp2_with (go_at_call 76; refine (HP.out _ _ _).mono ?_; rintro e w4 ⟨rfl, rfl⟩)
    go_ret
    exact ⟨ret_bool (by rw [HR.out]), HF0.out⟩
  | true =>
    have HP := Lib.hid (fun A c w => hp ▸ classPlace_any x A D.cls.length c w)
    obtain ⟨k, rfl, hk⟩ := plB_ex hp
    obtain ⟨bk, ok, rfl, n0, A6, k6, c0, w1, c1, w2, c2, w3, c3, w4, c4, w5, c5, u6, v6, c6, r6⟩ := h3.at hk
    rw [Nat.mul_comm 7 k] at c0 c1 c2 c3 c4 c5 c6
    have hki : (k : Int) < (D.cls.length : Int) := by omega
    have HR := Lib.hid (clsAtB_at hk)
    have hbk := lt_of_cell c0
    generalize D.cls[k] = c at *
    obtain ⟨kd, fi, bi, sh, pl, ex⟩ := c
    simp only at c0 c1 c2 c3 c4 c5 c6 w5 HR
    have HREG := Lib.hid (fun w1 (q : Fr w w1) => registersRight_any (HD.out.fr q) n0 kd fi bi sh pl A6 ex.length k6 ex w5)
    have HNUM := Lib.hid (fun most h0 h1 w1 => numbersRight_any n0 kd fi bi sh pl A6 ex.length k6 ex most h0 h1 w1)
    have z1 : bk < w.heap.size + 1 := by omega
    clear hp h1 h2 h3 h4 h5 h6 h7 h8 h9 r6 w1 w2 w3 w4 u6 v6
    go_enter Tryz.func46, Tryz.ntmps46
    go_wp2_with (first
      | (go_at_call 76; refine (HP.out _ _ _).mono ?_; rintro e w4 ⟨rfl, rfl⟩)
      | (go_at_call 77; refine (HREG.out _ (Fr.alloc HF0.out _)).mono ?_; rintro e w4 ⟨rfl, hf4⟩; have HF4 := Lib.hid (Fr.call (Fr.alloc HF0.out _) hf4); clear hf4)
      | (go_at_call 78; refine (HNUM.out _ (by decide) (by decide) _).mono ?_; rintro e w4 ⟨rfl, hf4⟩; have HF4 := Lib.hid (Fr.call (Fr.alloc HF0.out _) hf4); clear hf4))
    all_goals (have hr := HR.out; clear HR HREG HNUM HP HD HB c0 c1 c2 c3 c4 c5 c6)
    all_goals first
      | (go_ret; exact ⟨ret_bool (by rw [hr]; simp_all [clsB]), HF4.out⟩)
      | (go_ret; exact ⟨ret_bool (by rw [hr]; simp_all [clsB]), Fr.alloc HF0.out _⟩)
end Go.Proofs.YtdipnhghdajplaaGreatDoor
namespace Go.Proofs.YtdipnhghdajplaaGreatDoor
open Go.RowKit
set_option linter.unusedSimpArgs false
set_option linter.unusedVariables false

def RelO (w : World) (D : Ds) (dv : List Value) (args : List Int) (i : Value) (wr : World) : Prop := ∃ j : Nat, j ≤ args.length ∧ i = .int .i64 (j : Int) ∧ Fr w wr ∧ BlkAt wr w.heap.size dv ∧ (args.take j).all (clsAtB D) = true
set_option maxHeartbeats 12800000 in
set_option maxRecDepth 100000 in
theorem operandsRight_any {w : World} {D : Ds} {v : Array Value} (hD : DescAt w D v) (fn fs : ByteArray) (Aa Bp Cs : Option Addr) (args : List Int) (ac bl bc2 cl cc2 : Nat) (hA : RowOf ArgS 2 w Aa args) :
    Calls Tryz.prog 67 #[.agg v, .agg #[.string fn, .string fs, .slice Aa args.length ac, .slice Bp bl bc2, .slice Cs cl cc2]] w fun e w' => e = .returned (.bool (decide (args.length ≤ 6) && args.all (clsAtB D))) ∧ Fr w w' := by
  have HD := Lib.hid hD
  obtain ⟨s0, Fa, Ba, Ga, Ca, Ma, Ra, Ua, Xa, Ka, Na, Pa, fc, bc, gc, cc, mc, rc, uc, xc, kc, nl, nc, pc, rfl, h1, h2, h3, h4, h5, h6, h7, h8, h9⟩ := hD
  have HA := Lib.hid hA
  have HF0 := Lib.hid (show Fr w ((w.alloc (.cells #[.string s0, .int .i64 D.order, .slice Fa D.files.length fc, .slice Ba D.als.length bc, .slice Ga D.nflags gc, .slice Ca D.cls.length cc, .slice Ma D.fms.length mc, .slice Ra D.rels.length rc, .slice Ua D.uses.length uc, .slice Xa D.rxs.length xc, .slice Ka D.mcs.length kc, .slice Na nl nc, .slice Pa D.regs.length pc] 33)).alloc (.cells #[.string fn, .string fs, .slice Aa args.length ac, .slice Bp bl bc2, .slice Cs cl cc2] 43)) from Fr.alloc (Fr.alloc (Fr.refl w) _) _)
  have HB0 := Lib.hid (show BlkAt ((w.alloc (.cells #[.string s0, .int .i64 D.order, .slice Fa D.files.length fc, .slice Ba D.als.length bc, .slice Ga D.nflags gc, .slice Ca D.cls.length cc, .slice Ma D.fms.length mc, .slice Ra D.rels.length rc, .slice Ua D.uses.length uc, .slice Xa D.rxs.length xc, .slice Ka D.mcs.length kc, .slice Na nl nc, .slice Pa D.regs.length pc] 33)).alloc (.cells #[.string fn, .string fs, .slice Aa args.length ac, .slice Bp bl bc2, .slice Cs cl cc2] 43)) w.heap.size [.string s0, .int .i64 D.order, .slice Fa D.files.length fc, .slice Ba D.als.length bc, .slice Ga D.nflags gc, .slice Ca D.cls.length cc, .slice Ma D.fms.length mc, .slice Ra D.rels.length rc, .slice Ua D.uses.length uc, .slice Xa D.rxs.length xc, .slice Ka D.mcs.length kc, .slice Na nl nc, .slice Pa D.regs.length pc] from BlkAt.fr (by have := BlkAt.alloc (w := w) (t := 33) (cs := #[.string s0, .int .i64 D.order, .slice Fa D.files.length fc, .slice Ba D.als.length bc, .slice Ga D.nflags gc, .slice Ca D.cls.length cc, .slice Ma D.fms.length mc, .slice Ra D.rels.length rc, .slice Ua D.uses.length uc, .slice Xa D.rxs.length xc, .slice Ka D.mcs.length kc, .slice Na nl nc, .slice Pa D.regs.length pc]); simpa using this) (Fr.alloc (Fr.refl _) _))
  clear h1 h2 h3 h4 h5 h6 h7 h8 h9 hA
  by_cases hl : args.length ≤ 6
  · have hl1 : decide (6 < (args.length : Int)) = false := by simp; omega
    have HR := Lib.hid (show (decide (args.length ≤ 6) && args.all (clsAtB D)) = args.all (clsAtB D) by simp [hl])
    go_enter Tryz.func67, Tryz.ntmps67
    go_wp2
    go_loopw [14] (fun i wr => RelO w D [.string s0, .int .i64 D.order, .slice Fa D.files.length fc, .slice Ba D.als.length bc, .slice Ga D.nflags gc, .slice Ca D.cls.length cc, .slice Ma D.fms.length mc, .slice Ra D.rels.length rc, .slice Ua D.uses.length uc, .slice Xa D.rxs.length xc, .slice Ka D.mcs.length kc, .slice Na nl nc, .slice Pa D.regs.length pc] args i wr) (fun i _ => args.length - (intOf i).toNat)
    case atStart => exact ⟨0, by omega, rfl, HF0.out, HB0.out, by simp⟩
    case round =>
      obtain ⟨j, hj, rfl, hf, hB, hal⟩ := hrel
      have HF := Lib.hid hf
      have HB := Lib.hid hB
      have a0 := hB 0 _ rfl; have a1 := hB 1 _ rfl; have a2 := hB 2 _ rfl; have a3 := hB 3 _ rfl; have a4 := hB 4 _ rfl; have a5 := hB 5 _ rfl; have a6 := hB 6 _ rfl; have a7 := hB 7 _ rfl; have a8 := hB 8 _ rfl; have a9 := hB 9 _ rfl; have a10 := hB 10 _ rfl; have a11 := hB 11 _ rfl; have a12 := hB 12 _ rfl
      by_cases hlt : j < args.length
      · obtain ⟨b', o', rfl, n', g0, gw, g1⟩ := (HA.out.fr fun _ _ _ x => x.fr hf).at hlt
        rw [Nat.mul_comm 2 j] at g0 g1
        have HX := Lib.hid (fun h : clsAtB D args[j] = false => all_no hlt h)
        have HY := Lib.hid (fun h : clsAtB D args[j] = true => all_next hlt hal h)
        have HC := Lib.hid (fun w1 (k : Fr w w1) => classRight_any (HD.out.fr k) args[j])
        generalize clsAtB D args[j] = q at *
        generalize args[j] = x at *
        have hji : (j : Int) < (args.length : Int) := by omega
        have zb := lt_of_cell g0
        have zw := lt_of_cell a0
        clear hf hB hal hj gw
        go_wp2_with (go_at_call 46; refine (HC.out _ (Fr.alloc HF.out _)).mono ?_; rintro e w4 ⟨rfl, hf4⟩; have HF4 := Lib.hid (Fr.call (Fr.alloc HF.out _) hf4); have HB4 := Lib.hid (HB.out.fr (Fr.call (Fr.alloc (Fr.refl wr) _) hf4)); clear hf4)
        · go_ret
          rename_i hq
          exact ⟨ret_bool (by rw [HR.out, HX.out (by simpa using hq)]), HF4.out⟩
        · rename_i hq
          go_roundw
          case rel => exact ⟨j + 1, by omega, by go_num, HF4.out, HB4.out, HY.out (by simpa using hq)⟩
          case measure => simp [intOf]; omega
      · obtain rfl : j = args.length := by omega
        have H1 := Lib.hid (all_end hal)
        clear hf hB hal hj
        go_wp2
        go_ret
        exact ⟨ret_bool (by rw [HR.out, H1.out]), HF.out⟩
  · have hl1 : decide (6 < (args.length : Int)) = true := by simp; omega
    have HR := Lib.hid (show (decide (args.length ≤ 6) && args.all (clsAtB D)) = false by simp [hl])
    go_enter Tryz.func67, Tryz.ntmps67
    go_wp2
    go_ret
    exact ⟨ret_bool (by rw [HR.out]), Fr.alloc (Fr.alloc (Fr.refl w) _) _⟩
end Go.Proofs.YtdipnhghdajplaaGreatDoor
namespace Go.Proofs.YtdipnhghdajplaaGreatDoor
open Go.RowKit
set_option linter.unusedSimpArgs false
set_option linter.unusedVariables false

set_option maxHeartbeats 6400000 in
set_option maxRecDepth 100000 in
/-- A bit of an operand. -/
theorem put_arg (lb ob oo k n oc g m c lo b : Nat) (lit : ByteArray) (hi p : Int) (v0 : Value) {w : World} (hk : k < n) (hlb : lo + b < m) (hmx : m ≤ 64)
    (c4 : w.cell? ⟨lb, 4, none⟩ = some (.slice (some ⟨ob, oo, none⟩) n oc)) (c7 : w.cell? ⟨ob, oo + k * 8 + 7, none⟩ = some (.slice (some ⟨g, 0, none⟩) m c)) (cg : w.cell? ⟨g, lo + b, none⟩ = some v0) (fg : w.frozen? ⟨g, lo + b, none⟩ = false) :
    Calls Tryz.prog 73 #[.pointer (some ⟨lb, 0, none⟩), .agg #[.string lit, .int .i64 (k : Int), .int .i64 hi, .int .i64 (lo : Int)], .int .i64 (b : Int), .int .i64 p] w fun e w' =>
      e = .returned (.tuple #[]) ∧ ∃ nq, w' = ((w.alloc (.cells #[.string lit, .int .i64 (k : Int), .int .i64 hi, .int .i64 (lo : Int)] 148)).drewN nq).setCell ⟨g, lo + b, none⟩ (.int .i64 p) := by
  have hne : ((k : Int) != -1) = true := bne_iff_ne.2 (by omega)
  have hwp : IntKind.i64.wrap ((lo : Int) + (b : Int)) = (lo : Int) + (b : Int) := by simp [IntKind.wrap, IntKind.bits, IntKind.signed]; omega
  have htn : ((lo : Int) + (b : Int)).toNat = lo + b := by omega
  have hnn : (0 : Int) ≤ (lo : Int) + (b : Int) := by omega
  have hki : (k : Int) < (n : Int) := by omega
  have hlm : (lo : Int) + (b : Int) < (m : Int) := by omega
  have z1 := lt_of_cell c4
  have z2 := lt_of_cell c7
  have z3 := lt_of_cell cg
  have HB := Lib.hid (BlkAt.alloc (w := w) (t := 148) (cs := #[.string lit, .int .i64 (k : Int), .int .i64 hi, .int .i64 (lo : Int)]))
  have HF := Lib.hid (Fr.alloc (Fr.refl w) (.cells #[.string lit, .int .i64 (k : Int), .int .i64 hi, .int .i64 (lo : Int)] 148))
  have HL := Lib.hid hlb
  clear hlb
  have hlo : lo ≤ 64 := by have := HL.out; omega
  have hb : b ≤ 64 := by have := HL.out; omega
  go_enter Tryz.func73, Tryz.ntmps73
  go_wp2_with fail
  generalize hW : World.alloc w _ = W at *
  have d1 := HB.out 1 _ rfl
  have d3 := HB.out 3 _ rfl
  have y1 := lt_of_cell d1
  have e4 := HF.out.get c4
  have e7 := HF.out.get c7
  have eg := HF.out.get cg
  have efg := HF.out.free cg fg
  clear c4 c7 cg fg
  go_still_tail 15, (by kernel_rfl)
  change wpList _ _ _ _ _ W.drew
  go_wp2
  exact bodyPost_ret (v := .tuple #[]) (by simp [results, Tryz.results73, go_sem]) rfl ⟨rfl, 1, by rw [hW]; rfl⟩
/-- A letter at a place, told from behind. -/
theorem chr_idx {lit : ByteArray} {b i : Nat} (h : i + b + 1 = lit.size) : (lit.size : Int) - 1 - (b : Int) = (i : Int) := by omega
def litPut (lb o : Nat) (x0 x1 : Nat) (p : Nat) (w : World) (cs : Array Value) (w' : World) : Prop := ∃ nq, w' = ((w.alloc (.cells cs 148)).drewN nq).setCell ⟨lb, o + p / 64, none⟩ (.int .u64 (addN (if p < 64 then x0 else x1) p : Int))
set_option maxHeartbeats 6400000 in
set_option maxRecDepth 100000 in
/-- A literal's letter 48. -/
theorem put_zero (lb x0 x1 b i p : Nat) (h0 : x0 < 18446744073709551616) (h1 : x1 < 18446744073709551616) (lit : ByteArray) (hi lo : Int) {w : World} (hib : i + b + 1 = lit.size) (hls : lit.size ≤ maxLen) (hil : i < lit.size) (hc : lit[i].toNat = 48) (hp : p < 128)
    (c0 : w.cell? ⟨lb, 0, none⟩ = some (.int .u64 (x0 : Int))) (c1 : w.cell? ⟨lb, 0 + 1, none⟩ = some (.int .u64 (x1 : Int))) (f0 : w.frozen? ⟨lb, 0, none⟩ = false) (f1 : w.frozen? ⟨lb, 0 + 1, none⟩ = false) :
    Calls Tryz.prog 73 #[.pointer (some ⟨lb, 0, none⟩), .agg #[.string lit, .int .i64 (-1), .int .i64 hi, .int .i64 lo], .int .i64 (b : Int), .int .i64 (p : Int)] w fun e w' =>
      e = .returned (.tuple #[]) ∧ litPut lb 0 x0 x1 p w #[.string lit, .int .i64 (-1), .int .i64 hi, .int .i64 lo] w' := by
  have hls : lit.size ≤ 9223372036854775807 := Nat.le_trans hls (by decide)
  have hix := chr_idx hib
  have hil2 : (i : Int) < (lit.size : Int) := by omega
  have HF := Lib.hid (Fr.alloc (Fr.refl w) (.cells #[.string lit, .int .i64 (-1), .int .i64 hi, .int .i64 lo] 148))
  have HAD := Lib.hid (add_any lb 0 x0 x1 h0 h1 p hp (w.alloc (.cells #[.string lit, .int .i64 (-1), .int .i64 hi, .int .i64 lo] 148)) (HF.out.get c0) (HF.out.get c1) (HF.out.free c0 f0) (HF.out.free c1 f1))
  have hci : (lit[i].toNat : Int) = 48 := by omega
  clear c0 c1 f0 f1 hib hc h0 h1
  go_enter Tryz.func73, Tryz.ntmps73
  go_wp2_with fail
  refine HAD.out.mono ?_
  rintro e w4 ⟨rfl, nq, hw⟩
  have HW := Lib.hid hw
  clear hw
  go_wp2
  go_end0
  exact ⟨rfl, nq, HW.out⟩
set_option maxHeartbeats 6400000 in
set_option maxRecDepth 100000 in
/-- A literal's letter 49. -/
theorem put_one (lb x0 x1 b i p : Nat) (h0 : x0 < 18446744073709551616) (h1 : x1 < 18446744073709551616) (lit : ByteArray) (hi lo : Int) {w : World} (hib : i + b + 1 = lit.size) (hls : lit.size ≤ maxLen) (hil : i < lit.size) (hc : lit[i].toNat = 49) (hp : p < 128)
    (c0 : w.cell? ⟨lb, 2, none⟩ = some (.int .u64 (x0 : Int))) (c1 : w.cell? ⟨lb, 2 + 1, none⟩ = some (.int .u64 (x1 : Int))) (f0 : w.frozen? ⟨lb, 2, none⟩ = false) (f1 : w.frozen? ⟨lb, 2 + 1, none⟩ = false) :
    Calls Tryz.prog 73 #[.pointer (some ⟨lb, 0, none⟩), .agg #[.string lit, .int .i64 (-1), .int .i64 hi, .int .i64 lo], .int .i64 (b : Int), .int .i64 (p : Int)] w fun e w' =>
      e = .returned (.tuple #[]) ∧ litPut lb 2 x0 x1 p w #[.string lit, .int .i64 (-1), .int .i64 hi, .int .i64 lo] w' := by
  have hls : lit.size ≤ 9223372036854775807 := Nat.le_trans hls (by decide)
  have hix := chr_idx hib
  have hil2 : (i : Int) < (lit.size : Int) := by omega
  have HF := Lib.hid (Fr.alloc (Fr.refl w) (.cells #[.string lit, .int .i64 (-1), .int .i64 hi, .int .i64 lo] 148))
  have HAD := Lib.hid (add_any lb 2 x0 x1 h0 h1 p hp (w.alloc (.cells #[.string lit, .int .i64 (-1), .int .i64 hi, .int .i64 lo] 148)) (HF.out.get c0) (HF.out.get c1) (HF.out.free c0 f0) (HF.out.free c1 f1))
  have hci : (lit[i].toNat : Int) = 49 := by omega
  clear c0 c1 f0 f1 hib hc h0 h1
  go_enter Tryz.func73, Tryz.ntmps73
  go_wp2_with fail
  refine HAD.out.mono ?_
  rintro e w4 ⟨rfl, nq, hw⟩
  have HW := Lib.hid hw
  clear hw
  go_wp2
  go_end0
  exact ⟨rfl, nq, HW.out⟩
set_option maxHeartbeats 6400000 in
set_option maxRecDepth 100000 in
/-- A literal's letter that is neither. -/
theorem put_x (lb b i : Nat) (p : Int) (lit : ByteArray) (hi lo : Int) {w : World} (hib : i + b + 1 = lit.size) (hls : lit.size ≤ maxLen) (hil : i < lit.size) (hc : lit[i].toNat = 120) :
    Calls Tryz.prog 73 #[.pointer (some ⟨lb, 0, none⟩), .agg #[.string lit, .int .i64 (-1), .int .i64 hi, .int .i64 lo], .int .i64 (b : Int), .int .i64 p] w fun e w' => e = .returned (.tuple #[]) ∧ Fr w w' := by
  have hls : lit.size ≤ 9223372036854775807 := Nat.le_trans hls (by decide)
  have hix := chr_idx hib
  have hil2 : (i : Int) < (lit.size : Int) := by omega
  have hci : (lit[i].toNat : Int) = 120 := by omega
  clear hib hc
  go_enter Tryz.func73, Tryz.ntmps73
  go_wp2
  go_end0
  exact ⟨rfl, Fr.alloc (Fr.refl w) _⟩
end Go.Proofs.YtdipnhghdajplaaGreatDoor
namespace Go.Proofs.YtdipnhghdajplaaGreatDoor
open Go.RowKit
set_option linter.unusedSimpArgs false
set_option linter.unusedVariables false

theorem row1 {w : World} (x : Int) (t : TypeId) (g : Nat) (hg : g = w.heap.size) : RowOf IntC 1 (w.alloc (.cells #[.int .i64 x] t)) (some ⟨g, 0, none⟩) [x] := fun _ => ⟨g, 0, rfl, fun i hi => by
  subst hg
  obtain rfl : i = 0 := by simpa using hi
  unfold IntC; simp⟩
theorem row2 {w : World} (x y : Int) (t : TypeId) (g : Nat) (hg : g = w.heap.size) : RowOf IntC 1 (w.alloc (.cells #[.int .i64 x, .int .i64 y] t)) (some ⟨g, 0, none⟩) [x, y] := fun _ => ⟨g, 0, rfl, fun i hi => by
  subst hg
  unfold IntC
  have : i = 0 ∨ i = 1 := by simp at hi; omega
  rcases this with rfl | rfl <;> simp⟩
theorem row0 {w : World} {A : Option Addr} : RowOf IntC 1 w A [] := fun h => absurd h (by simp)
theorem three_keep {W wx : World} {g s : Nat} {v2 v4 u : Value} (h2 : W.cell? ⟨g, 2, none⟩ = some v2) (h4 : W.cell? ⟨g, 4, none⟩ = some v4) (k4 : W.cell? ⟨s, 4, none⟩ = some u) (h : Fr W wx) : Fr W wx ∧ wx.cell? ⟨g, 2, none⟩ = some v2 ∧ wx.cell? ⟨g, 4, none⟩ = some v4 ∧ wx.cell? ⟨s, 4, none⟩ = some u := ⟨h, h.get h2, h.get h4, h.get k4⟩
section
variable {E : Env} {Fa Ca Aa Ga Ma : Option Addr} {sb : Nat} {n0 n1 n3 n7 n8 n9 n10 n11 n12 : Value} {fc gc cc ml mc ac : Nat}
set_option maxHeartbeats 6400000 in
set_option maxRecDepth 100000 in
theorem eff34 {w : World} (S : BlkAt w sb [n0, n1, .slice Fa E.files.length fc, n3, .slice Ga E.nflags gc, .slice Ca E.classes.length cc, .slice Ma ml mc, n7, n8, n9, n10, n11, n12, .slice Aa E.args.length ac]) (hE : EnvAt E w Fa Ca Aa) (wd a b : Int) (ks : List Tm) (A : Option Addr) (c : Nat) (hT : TmL w A ks) :
    Calls Tryz.prog 79 #[.pointer (some ⟨sb, 0, none⟩), .agg #[.int .i64 34, .int .i64 wd, .int .i64 a, .int .i64 b, .slice A ks.length c]] w fun e w' => e = .returned (.bool (havB E ks [64])) ∧ Fr w w' := by
  have HS := Lib.hid S
  have HE := Lib.hid hE
  have HT := Lib.hid hT
  have HB := Lib.hid (BlkAt.alloc (w := w) (t := 124) (cs := #[.int .i64 34, .int .i64 wd, .int .i64 a, .int .i64 b, .slice A ks.length c]))
  have HF0 := Lib.hid (Fr.alloc (Fr.refl w) (.cells #[.int .i64 34, .int .i64 wd, .int .i64 a, .int .i64 b, .slice A ks.length c] 124))
  have HV := Lib.hid (fun (w1 : World) (k : Fr w w1) (ws : List Int) (W : Option Addr) (c2 : Nat) (hW : RowOf IntC 1 w1 W ws) (hl : ws.length ≤ 2) => have_any (S.fr k) (hE.fr k) ks A c (TmL.fr k hT) ws W c2 hW hl)
  clear S hE hT
  go_enter Tryz.func79, Tryz.ntmps79
  go_wp2_with fail
  refine (HV.out _ (Fr.alloc HF0.out _) _ _ _ (row1 _ _ _ (by simp)) (by simp)).mono ?_
  rintro e w5 ⟨rfl, hf5⟩
  have HF5 := Lib.hid (Fr.call (Fr.alloc HF0.out _) hf5)
  clear hf5
  go_wp2
  go_ret
  exact ⟨rfl, HF5.out⟩
set_option maxHeartbeats 6400000 in
set_option maxRecDepth 100000 in
theorem eff36 {w : World} (S : BlkAt w sb [n0, n1, .slice Fa E.files.length fc, n3, .slice Ga E.nflags gc, .slice Ca E.classes.length cc, .slice Ma ml mc, n7, n8, n9, n10, n11, n12, .slice Aa E.args.length ac]) (hE : EnvAt E w Fa Ca Aa) (wd a b : Int) (ks : List Tm) (A : Option Addr) (c : Nat) (hT : TmL w A ks) :
    Calls Tryz.prog 79 #[.pointer (some ⟨sb, 0, none⟩), .agg #[.int .i64 36, .int .i64 wd, .int .i64 a, .int .i64 b, .slice A ks.length c]] w fun e w' => e = .returned (.bool (havB E ks [])) ∧ Fr w w' := by
  have HS := Lib.hid S
  have HE := Lib.hid hE
  have HT := Lib.hid hT
  have HB := Lib.hid (BlkAt.alloc (w := w) (t := 124) (cs := #[.int .i64 36, .int .i64 wd, .int .i64 a, .int .i64 b, .slice A ks.length c]))
  have HF0 := Lib.hid (Fr.alloc (Fr.refl w) (.cells #[.int .i64 36, .int .i64 wd, .int .i64 a, .int .i64 b, .slice A ks.length c] 124))
  have HV := Lib.hid (fun (w1 : World) (k : Fr w w1) (ws : List Int) (W : Option Addr) (c2 : Nat) (hW : RowOf IntC 1 w1 W ws) (hl : ws.length ≤ 2) => have_any (S.fr k) (hE.fr k) ks A c (TmL.fr k hT) ws W c2 hW hl)
  clear S hE hT
  go_enter Tryz.func79, Tryz.ntmps79
  go_wp2_with fail
  refine (HV.out _ (HF0.out) _ _ _ (row0) (by simp)).mono ?_
  rintro e w5 ⟨rfl, hf5⟩
  have HF5 := Lib.hid (Fr.call (HF0.out) hf5)
  clear hf5
  go_wp2
  go_ret
  exact ⟨rfl, HF5.out⟩
set_option maxHeartbeats 6400000 in
set_option maxRecDepth 100000 in
theorem eff35 {w : World} (S : BlkAt w sb [n0, n1, .slice Fa E.files.length fc, n3, .slice Ga E.nflags gc, .slice Ca E.classes.length cc, .slice Ma ml mc, n7, n8, n9, n10, n11, n12, .slice Aa E.args.length ac]) (hE : EnvAt E w Fa Ca Aa) (wd a b : Int) (ks : List Tm) (A : Option Addr) (c : Nat) (hT : TmL w A ks) :
    Calls Tryz.prog 79 #[.pointer (some ⟨sb, 0, none⟩), .agg #[.int .i64 35, .int .i64 wd, .int .i64 a, .int .i64 b, .slice A ks.length c]] w fun e w' => e = .returned (.bool (decide (1 ≤ a) && decide (a ≤ 15) && havB E ks [])) ∧ Fr w w' := by
  have HS := Lib.hid S
  have HE := Lib.hid hE
  have HT := Lib.hid hT
  have HB := Lib.hid (BlkAt.alloc (w := w) (t := 124) (cs := #[.int .i64 35, .int .i64 wd, .int .i64 a, .int .i64 b, .slice A ks.length c]))
  have HF0 := Lib.hid (Fr.alloc (Fr.refl w) (.cells #[.int .i64 35, .int .i64 wd, .int .i64 a, .int .i64 b, .slice A ks.length c] 124))
  have HV := Lib.hid (fun (w1 : World) (k : Fr w w1) (ws : List Int) (W : Option Addr) (c2 : Nat) (hW : RowOf IntC 1 w1 W ws) (hl : ws.length ≤ 2) => have_any (S.fr k) (hE.fr k) ks A c (TmL.fr k hT) ws W c2 hW hl)
  clear S hE hT
  by_cases h1 : 1 ≤ a
  · have hd1 : decide (1 ≤ a) = true := by simp [h1]
    by_cases h2 : a ≤ 15
    · have hd2 : decide (a ≤ 15) = true := by simp [h2]
      rw [hd1, hd2, Bool.true_and, Bool.true_and]
      clear h1 h2
      go_enter Tryz.func79, Tryz.ntmps79
      go_wp2_with fail
      refine (HV.out _ (HF0.out) _ _ _ (row0) (by simp)).mono ?_
      rintro e w5 ⟨rfl, hf5⟩
      have HF5 := Lib.hid (Fr.call (HF0.out) hf5)
      clear hf5
      go_wp2
      go_ret
      exact ⟨rfl, HF5.out⟩
    · have hd2 : decide (a ≤ 15) = false := by simp; omega
      rw [hd2, Bool.and_false, Bool.false_and]
      clear h1 h2
      go_enter Tryz.func79, Tryz.ntmps79
      go_wp2
      go_ret
      exact ⟨rfl, HF0.out⟩
  · have hd1 : decide (1 ≤ a) = false := by simp; omega
    rw [hd1, Bool.false_and, Bool.false_and]
    clear h1
    go_enter Tryz.func79, Tryz.ntmps79
    go_wp2
    go_ret
    exact ⟨rfl, HF0.out⟩
end
end Go.Proofs.YtdipnhghdajplaaGreatDoor
namespace Go.Proofs.YtdipnhghdajplaaGreatDoor
open Go.RowKit
set_option linter.unusedSimpArgs false
set_option linter.unusedVariables false

def flaKids (op : Int) : Int := if op = 20 ∨ op = 38 ∨ op = 39 ∨ op = 40 ∨ op = 41 ∨ op = 42 ∨ op = 44 then 0 else if op = 43 then 1 else if op = 1 ∨ op = 2 then 2 else -1
def chkB (sign width align round : Int) : Bool := decide (0 ≤ sign) && decide (sign ≤ 3) && (decide (sign = 0) || decide (1 ≤ width) && decide (width ≤ 64)) && decide (0 ≤ align) && decide (align ≤ 30) && decide (0 ≤ round) && decide (round ≤ 4294967296)
/-- Something of the part at a place, if there is one. -/
def atB {α : Type} (l : List α) (x : Int) (P : α → Bool) : Bool := if 0 ≤ x then match l[x.toNat]? with
  | some a => P a
  | none => false
  else false
theorem atB_no {α : Type} {l : List α} {x : Int} {P : α → Bool} (h : plB x l.length = false) : atB l x P = false := by
  unfold atB
  by_cases h0 : 0 ≤ x
  · rw [if_pos h0, List.getElem?_eq_none (by simp [plB, h0] at h; omega)]
  · rw [if_neg h0]
theorem atB_at {α : Type} {l : List α} {k : Nat} {P : α → Bool} (h : k < l.length) : atB l (k : Int) P = P l[k] := by
  unfold atB
  rw [if_pos (by omega)]
  simp [h]
theorem formulaKids_any (x : Int) (w : World) : Calls Tryz.prog 115 #[.int .i64 x] w fun e w' => e = .returned (.int .i64 (flaKids x)) ∧ w' = w := by
  go_enter Tryz.func115, Tryz.ntmps115
  go_wp2
  all_goals (go_ret; exact ⟨ret_int (by unfold flaKids; simp_all; try omega), rfl⟩)
set_option maxHeartbeats 6400000 in
set_option maxRecDepth 100000 in
theorem checksRight_any (n0 : ByteArray) (num kind bytes cls cls2 op wd ta tb sign width align round hi lo : Int) (A : Option Addr) (l c : Nat) (w : World) :
    Calls Tryz.prog 81 #[.agg #[.string n0, .int .i64 num, .int .i64 kind, .int .i64 bytes, .int .i64 cls, .int .i64 cls2, .int .i64 op, .int .i64 wd, .int .i64 ta, .int .i64 tb, .slice A l c, .int .i64 sign, .int .i64 width, .int .i64 align, .int .i64 round, .int .i64 hi, .int .i64 lo]] w fun e w' => e = .returned (.bool (chkB sign width align round)) ∧ Fr w w' := by
  go_enter Tryz.func81, Tryz.ntmps81
  go_wp2
  all_goals (go_ret; exact ⟨bool_iff (by first | (simp [chkB]; done) | (simp [chkB]; omega) | (simp_all [chkB]; done) | (simp_all [chkB]; omega)), by first | exact Fr.alloc (Fr.refl w) _ | exact Fr.drewN (Fr.alloc (Fr.refl w) _) _⟩)
theorem relPlace_any (x : Int) (A : Option Addr) (n c : Nat) (w : World) : Calls Tryz.prog 84 #[.int .i64 x, .slice A n c] w fun e w' => e = .returned (.bool (plB x n)) ∧ w' = w := by
  go_enter Tryz.func84, Tryz.ntmps84
  go_wp2
  all_goals (go_ret; exact ⟨bool_iff (by simp [plB]; omega), rfl⟩)
set_option maxHeartbeats 6400000 in
set_option maxRecDepth 100000 in
theorem hasKind_any {w : World} {D : Ds} {v : Array Value} (hD : DescAt w D v) (x kd : Int) :
    Calls Tryz.prog 83 #[.agg v, .int .i64 x, .int .i64 kd] w fun e w' => e = .returned (.bool (atB D.rels x fun a => decide (a.kind = kd))) ∧ Fr w w' := by
  obtain ⟨s0, Fa, Ba, Ga, Ca, Ma, Ra, Ua, Xa, Ka, Na, Pa, fc, bc, gc, cc, mc, rc, uc, xc, kc, nl, nc, pc, rfl, h1, h2, h3, h4, h5, h6, h7, h8, h9⟩ := hD
  cases hp : plB x D.rels.length with
  | false =>
    have HP := Lib.hid (fun A c w => hp ▸ relPlace_any x A D.rels.length c w)
    have HR := Lib.hid (atB_no (P := fun a => decide (a.kind = kd)) hp)
    clear hp h1 h2 h3 h4 h5 h6 h7 h8 h9
    go_enter Tryz.func83, Tryz.ntmps83
    go_wp2_with (go_at_call 84; refine (HP.out _ _ _).mono ?_; rintro e w4 ⟨rfl, rfl⟩)
    go_ret
    exact ⟨ret_bool (by rw [HR.out]), Fr.alloc (Fr.refl w) _⟩
  | true =>
    have HP := Lib.hid (fun A c w => hp ▸ relPlace_any x A D.rels.length c w)
    obtain ⟨k, rfl, hk⟩ := plB_ex hp
    obtain ⟨bk, ok, rfl, n0, c0, w1, c1, w2, c2, rest⟩ := h5.at hk
    rw [Nat.mul_comm 17 k] at c2
    have hki : (k : Int) < (D.rels.length : Int) := by omega
    have HR := Lib.hid (atB_at (P := fun a => decide (a.kind = kd)) hk)
    have hbk := lt_of_cell c2
    have z1 : bk < w.heap.size + 1 := by omega
    generalize D.rels[k].kind = y at *
    clear hp h1 h2 h3 h4 h5 h6 h7 h8 h9
    go_enter Tryz.func83, Tryz.ntmps83
    go_wp2_with (go_at_call 84; refine (HP.out _ _ _).mono ?_; rintro e w4 ⟨rfl, rfl⟩)
    go_ret
    exact ⟨bool_iff (by rw [HR.out]; simp), Fr.alloc (Fr.refl w) _⟩
set_option maxHeartbeats 6400000 in
set_option maxRecDepth 100000 in
theorem patches_any {w : World} {D : Ds} {v : Array Value} (hD : DescAt w D v) (x : Int) :
    Calls Tryz.prog 52 #[.agg v, .int .i64 x] w fun e w' => e = .returned (.bool (atB D.rels x fun a => !decide (a.kind = 1))) ∧ Fr w w' := by
  obtain ⟨s0, Fa, Ba, Ga, Ca, Ma, Ra, Ua, Xa, Ka, Na, Pa, fc, bc, gc, cc, mc, rc, uc, xc, kc, nl, nc, pc, rfl, h1, h2, h3, h4, h5, h6, h7, h8, h9⟩ := hD
  cases hp : plB x D.rels.length with
  | false =>
    have HP := Lib.hid (fun A c w => hp ▸ relPlace_any x A D.rels.length c w)
    have HR := Lib.hid (atB_no (P := fun a => !decide (a.kind = 1)) hp)
    clear hp h1 h2 h3 h4 h5 h6 h7 h8 h9
    go_enter Tryz.func52, Tryz.ntmps52
    go_wp2_with (go_at_call 84; refine (HP.out _ _ _).mono ?_; rintro e w4 ⟨rfl, rfl⟩)
    go_ret
    exact ⟨ret_bool (by rw [HR.out]), Fr.alloc (Fr.refl w) _⟩
  | true =>
    have HP := Lib.hid (fun A c w => hp ▸ relPlace_any x A D.rels.length c w)
    obtain ⟨k, rfl, hk⟩ := plB_ex hp
    obtain ⟨bk, ok, rfl, n0, c0, w1, c1, w2, c2, rest⟩ := h5.at hk
    rw [Nat.mul_comm 17 k] at c2
    have hki : (k : Int) < (D.rels.length : Int) := by omega
    have HR := Lib.hid (atB_at (P := fun a => !decide (a.kind = 1)) hk)
    have hbk := lt_of_cell c2
    have z1 : bk < w.heap.size + 1 := by omega
    generalize D.rels[k].kind = y at *
    clear hp h1 h2 h3 h4 h5 h6 h7 h8 h9
    go_enter Tryz.func52, Tryz.ntmps52
    go_wp2_with (go_at_call 84; refine (HP.out _ _ _).mono ?_; rintro e w4 ⟨rfl, rfl⟩)
    go_ret
    exact ⟨bool_iff (by rw [HR.out]; simp), Fr.alloc (Fr.refl w) _⟩
set_option maxHeartbeats 6400000 in
set_option maxRecDepth 100000 in
theorem hasBits_any {w : World} {D : Ds} {v : Array Value} (hD : DescAt w D v) (x bt : Int) :
    Calls Tryz.prog 114 #[.agg v, .int .i64 x, .int .i64 bt] w fun e w' => e = .returned (.bool (atB D.cls x fun a => decide (a.bits = bt))) ∧ Fr w w' := by
  obtain ⟨s0, Fa, Ba, Ga, Ca, Ma, Ra, Ua, Xa, Ka, Na, Pa, fc, bc, gc, cc, mc, rc, uc, xc, kc, nl, nc, pc, rfl, h1, h2, h3, h4, h5, h6, h7, h8, h9⟩ := hD
  cases hp : plB x D.cls.length with
  | false =>
    have HP := Lib.hid (fun A c w => hp ▸ classPlace_any x A D.cls.length c w)
    have HR := Lib.hid (atB_no (P := fun a => decide (a.bits = bt)) hp)
    clear hp h1 h2 h3 h4 h5 h6 h7 h8 h9
    go_enter Tryz.func114, Tryz.ntmps114
    go_wp2_with (go_at_call 76; refine (HP.out _ _ _).mono ?_; rintro e w4 ⟨rfl, rfl⟩)
    go_ret
    exact ⟨ret_bool (by rw [HR.out]), Fr.alloc (Fr.refl w) _⟩
  | true =>
    have HP := Lib.hid (fun A c w => hp ▸ classPlace_any x A D.cls.length c w)
    obtain ⟨k, rfl, hk⟩ := plB_ex hp
    obtain ⟨bk, ok, rfl, n0, A6, k6, c0, w1, c1, w2, c2, w3, c3, rest⟩ := h3.at hk
    rw [Nat.mul_comm 7 k] at c3
    have hki : (k : Int) < (D.cls.length : Int) := by omega
    have HR := Lib.hid (atB_at (P := fun a => decide (a.bits = bt)) hk)
    have hbk := lt_of_cell c3
    have z1 : bk < w.heap.size + 1 := by omega
    generalize D.cls[k].bits = y at *
    clear hp h1 h2 h3 h4 h5 h6 h7 h8 h9
    go_enter Tryz.func114, Tryz.ntmps114
    go_wp2_with (go_at_call 76; refine (HP.out _ _ _).mono ?_; rintro e w4 ⟨rfl, rfl⟩)
    go_ret
    exact ⟨bool_iff (by rw [HR.out]; simp), Fr.alloc (Fr.refl w) _⟩
end Go.Proofs.YtdipnhghdajplaaGreatDoor
namespace Go.Proofs.YtdipnhghdajplaaGreatDoor
open Go.RowKit
set_option linter.unusedSimpArgs false
set_option linter.unusedVariables false

mutual
def flaB : Tm → Bool
  | .node op wd a b ks => decide ((ks.length : Int) = flaKids op) && flaL ks
def flaL : List Tm → Bool
  | [] => true
  | t :: r => flaB t && flaL r
end
theorem flaL_all : ∀ l : List Tm, flaL l = l.all flaB
  | [] => rfl
  | t :: r => by unfold flaL; rw [flaL_all r]; rfl
def FlaC (n : Nat) : Prop := ∀ (op wd a b : Int) (ks : List Tm) (A : Option Addr) (c : Nat) (w : World), SizeOf.sizeOf (Tm.node op wd a b ks) < n → TmL w A ks →
  Calls Tryz.prog 82 #[.agg #[.int .i64 op, .int .i64 wd, .int .i64 a, .int .i64 b, .slice A ks.length c]] w fun e w' => e = .returned (.bool (flaB (.node op wd a b ks))) ∧ Fr w w'
theorem flaKids_le {op : Int} : flaKids op ≤ 2 := by
  unfold flaKids
  repeat' split
  all_goals omega
def RelF (w : World) (ks : List Tm) (i : Value) (wr : World) : Prop := ∃ j : Nat, j ≤ ks.length ∧ i = .int .i64 (j : Int) ∧ Fr w wr ∧ (ks.take j).all flaB = true
set_option maxHeartbeats 12800000 in
set_option maxRecDepth 100000 in
theorem fla_step (n : Nat) (ih : FlaC n) : FlaC (n + 1) := by
  intro op wd a b ks A c w hn hT
  have IH := Lib.hid ih
  have HT := Lib.hid hT
  have HN := Lib.hid hn
  clear ih hT hn
  by_cases hk : (ks.length : Int) = flaKids op
  · have hk3 := flaKids_le (op := op)
    have HK := Lib.hid (show flaB (.node op wd a b ks) = ks.all flaB by unfold flaB; rw [flaL_all]; simp [hk])
    have hke : ((ks.length : Int) != flaKids op) = false := by simp [hk]
    have hl3 : ks.length ≤ 2 := by omega
    clear hk hk3
    go_enter Tryz.func82, Tryz.ntmps82
    go_wp2
    go_quiet ((go_at_call 115; refine Calls.quiet_of_same (formulaKids_any _ _)))
    go_wp2
    go_loopw [15] (fun i wr => RelF w ks i wr) (fun i _ => ks.length - (intOf i).toNat)
    case atStart => exact ⟨0, by omega, rfl, Fr.drewN (Fr.alloc (Fr.refl w) _) _, by simp⟩
    case round =>
      obtain ⟨j, hj, rfl, hf, hal⟩ := hrel
      have HF := Lib.hid hf
      by_cases hlt : j < ks.length
      · obtain ⟨b', o', rfl, ht⟩ := (HT.out.fr hf).elem j hlt
        rw [Nat.mul_comm 5 j] at ht
        have hm := List.getElem_mem hlt
        have HX := Lib.hid (fun h : flaB ks[j] = false => all_no hlt h)
        have HY := Lib.hid (fun h : flaB ks[j] = true => all_next hlt hal h)
        generalize hx : ks[j] = x at *
        obtain ⟨op2, wd2, a2, b2, ks2⟩ := x
        unfold TmT at ht
        obtain ⟨A2, c2, hc2, h0, h1, h2, h3, h4, hkk⟩ := ht
        have hsz := List.sizeOf_lt_of_mem hm
        have hji : (j : Int) < (ks.length : Int) := by omega
        have HR := Lib.hid (fun w1 (k : Fr wr w1) => IH.out op2 wd2 a2 b2 ks2 A2 c2 w1 (by have := HN.out; simp at this; omega) (hkk.fr k))
        have zb := lt_of_cell h0
        generalize flaB (.node op2 wd2 a2 b2 ks2) = q at *
        clear hf hal hkk hsz hx hm hj
        go_wp2_with (go_at_call 82; refine (HR.out _ (Fr.alloc (Fr.refl wr) _)).mono ?_; rintro e w4 ⟨rfl, hf4⟩; have HF4 := Lib.hid (HF.out.call (Fr.call (Fr.alloc (Fr.refl wr) _) hf4)); clear hf4)
        · go_ret
          rename_i hq
          exact ⟨ret_bool (by rw [HK.out, HX.out (by simpa using hq)]), HF4.out⟩
        · rename_i hq
          go_roundw
          case rel => exact ⟨j + 1, by omega, by go_num, HF4.out, HY.out (by simpa using hq)⟩
          case measure => simp [intOf]; omega
      · obtain rfl : j = ks.length := by omega
        have H1 := Lib.hid (all_end hal)
        clear hf hal hj
        go_wp2
        go_ret
        exact ⟨ret_bool (by rw [HK.out, H1.out]), HF.out⟩
  · have hke : ((ks.length : Int) != flaKids op) = true := by simp [hk]
    have HZ := Lib.hid (show flaB (.node op wd a b ks) = false by unfold flaB; simp [hk])
    clear hk
    go_enter Tryz.func82, Tryz.ntmps82
    go_wp2
    go_quiet ((go_at_call 115; refine Calls.quiet_of_same (formulaKids_any _ _)))
    go_wp2
    go_ret
    exact ⟨ret_bool (by rw [HZ.out]), Fr.drewN (Fr.alloc (Fr.refl w) _) _⟩
theorem fla_all : ∀ n : Nat, FlaC n
  | 0 => fun op wd a b ks A c w h => absurd h (by omega)
  | n + 1 => fla_step n (fla_all n)
/-- The program's test of a formula. -/
theorem formulaRight_any (op wd a b : Int) (ks : List Tm) (A : Option Addr) (c : Nat) (w : World) (hT : TmL w A ks) :
    Calls Tryz.prog 82 #[.agg #[.int .i64 op, .int .i64 wd, .int .i64 a, .int .i64 b, .slice A ks.length c]] w fun e w' => e = .returned (.bool (flaB (.node op wd a b ks))) ∧ Fr w w' :=
  fla_all _ op wd a b ks A c w (Nat.lt_succ_self _) hT
end Go.Proofs.YtdipnhghdajplaaGreatDoor
