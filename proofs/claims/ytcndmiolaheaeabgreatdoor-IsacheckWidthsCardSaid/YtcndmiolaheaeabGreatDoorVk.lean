/- The width of a register that a term names, of the reference. -/
import Derived.Test.YtcndmiolaheaeabGreatDoorVe
import Derived.Deep.RegionHeld3
import Derived.Laws.BitsLemmas
namespace Go.Proofs.YtcndmiolaheaeabGreatDoor
open Go.RowKit
set_option linter.unusedSimpArgs false
set_option linter.unusedVariables false

section
variable {E : Env} {w : World} {Fa Ca Aa Ga Ma : Option Addr} {n0 n1 n3 n7 n8 n9 n10 n11 n12 m0 m1 m3 m4 : Value} {fc gc cc ml mc ac : Nat}
set_option maxHeartbeats 12800000 in
set_option maxRecDepth 100000 in
theorem rreg_noPlace (hE : EnvAt E w Fa Ca Aa) (op wd b : Int) (a : Int) (ha : plB a E.files.length = false) (K : Option Addr) (kl kc : Nat) :
    Calls Tryz.prog 25 #[.agg #[n0, n1, .slice Fa E.files.length fc, n3, .slice Ga E.nflags gc, .slice Ca E.classes.length cc, .slice Ma ml mc, n7, n8, n9, n10, n11, n12], .agg #[m0, m1, .slice Aa E.args.length ac, m3, m4], .agg #[.int .i64 op, .int .i64 wd, .int .i64 a, .int .i64 b, .slice K kl kc]] w fun e w' => e = .returned (.int .i64 0) ∧ Fr w w' := by
  have HP := Lib.hid (fun w => ha ▸ rplace_any a E.files.length w)
  clear hE ha
  go_enter Tryz.func25, Tryz.ntmps25
  go_wp2_with (go_at_call 26; refine (HP.out _).mono ?_; rintro e w1 ⟨rfl, rfl⟩)
  go_ret
  exact ⟨rfl, by repeat (first | with_reducible exact Fr.refl _ | with_reducible assumption | with_reducible apply Fr.drewN | with_reducible apply Fr.drew | with_reducible apply Fr.alloc | (with_reducible refine Fr.set ?_ (by simp) _))⟩
set_option maxHeartbeats 12800000 in
set_option maxRecDepth 100000 in
theorem rreg_noFile (hE : EnvAt E w Fa Ca Aa) (op wd b : Int) {j : Nat} (hj : j < E.files.length) (hfb : fileB E.files[j] = false) (K : Option Addr) (kl kc : Nat) :
    Calls Tryz.prog 25 #[.agg #[n0, n1, .slice Fa E.files.length fc, n3, .slice Ga E.nflags gc, .slice Ca E.classes.length cc, .slice Ma ml mc, n7, n8, n9, n10, n11, n12], .agg #[m0, m1, .slice Aa E.args.length ac, m3, m4], .agg #[.int .i64 op, .int .i64 wd, .int .i64 (j : Int), .int .i64 b, .slice K kl kc]] w fun e w' => e = .returned (.int .i64 0) ∧ Fr w w' := by
  obtain ⟨g, o, rfl, n, h0, h1, h2, h3⟩ := hE.files.at hj
  rw [Nat.mul_comm 4 j] at h0 h1 h2 h3
  have hbl := lt_of_cell h0
  have hbl1 : g < w.heap.size + 1 := by omega
  have hbl2 : g < w.heap.size + 1 + 1 := by omega
  have hji : (j : Int) < (E.files.length : Int) := by omega
  have HP := Lib.hid (fun w => (show plB (j : Int) E.files.length = true by simp [plB_nat, hj]) ▸ rplace_any (j : Int) E.files.length w)
  have HF := Lib.hid (fun w => hfb ▸ rfile_any E.files[j] n w)
  generalize E.files[j] = f at *
  clear hE hfb
  go_enter Tryz.func25, Tryz.ntmps25
  go_wp2_with (first
    | (go_at_call 26; refine (HP.out _).mono ?_; rintro e w1 ⟨rfl, rfl⟩)
    | (go_at_call 59; refine (HF.out _).mono ?_; rintro e w1 ⟨rfl, hf⟩; have HF1 := Lib.hid hf; clear hf))
  go_ret
  exact ⟨rfl, (Fr.alloc (Fr.alloc (Fr.alloc (Fr.refl w) _) _) _).call HF1.out⟩
set_option maxHeartbeats 12800000 in
set_option maxRecDepth 100000 in
theorem rreg_neg (hE : EnvAt E w Fa Ca Aa) (op wd b : Int) (a : Int) {f : Int × Int × Int} (hf : fileO E a = some f) (hb1 : b < 0) (hb2 : -f.1 ≤ b) (K : Option Addr) (kl kc : Nat) :
    Calls Tryz.prog 25 #[.agg #[n0, n1, .slice Fa E.files.length fc, n3, .slice Ga E.nflags gc, .slice Ca E.classes.length cc, .slice Ma ml mc, n7, n8, n9, n10, n11, n12], .agg #[m0, m1, .slice Aa E.args.length ac, m3, m4], .agg #[.int .i64 op, .int .i64 wd, .int .i64 a, .int .i64 b, .slice K kl kc]] w fun e w' => e = .returned (.int .i64 f.2.1) ∧ Fr w w' := by
  obtain ⟨j, hj, rfl, he, hfb⟩ := fileO_file hf
  obtain ⟨g, o, rfl, n, h0, h1, h2, h3⟩ := hE.files.at hj
  rw [Nat.mul_comm 4 j] at h0 h1 h2 h3
  have hbl := lt_of_cell h0
  have hbl1 : g < w.heap.size + 1 := by omega
  have hbl2 : g < w.heap.size + 1 + 1 := by omega
  have hji : (j : Int) < (E.files.length : Int) := by omega
  have hng : IntKind.i64.wrap (-f.1) = -f.1 := by
    have h := hfb
    simp only [fileB, Bool.and_eq_true, decide_eq_true_eq] at h
    rw [IntKind.wrap_i64]; omega
  have HP := Lib.hid (fun w => (show plB (j : Int) E.files.length = true by simp [plB_nat, hj]) ▸ rplace_any (j : Int) E.files.length w)
  have HF := Lib.hid (fun w => hfb ▸ rfile_any f n w)
  rw [he] at h1 h2 h3
  have HW : Hid (Fr w (World.alloc (World.alloc (World.alloc w (.cells #[n0, n1, .slice (some ⟨g, o, none⟩) E.files.length fc, n3, .slice Ga E.nflags gc, .slice Ca E.classes.length cc, .slice Ma ml mc, n7, n8, n9, n10, n11, n12] 34)) (.cells #[m0, m1, .slice Aa E.args.length ac, m3, m4] 48)) (.cells #[.int .i64 op, .int .i64 wd, .int .i64 (j : Int), .int .i64 b, .slice K kl kc] 42))) := Lib.hid (Fr.alloc (Fr.alloc (Fr.alloc (Fr.refl w) _) _) _)
  have HB3 : Hid (BlkAt (World.alloc (World.alloc (World.alloc w (.cells #[n0, n1, .slice (some ⟨g, o, none⟩) E.files.length fc, n3, .slice Ga E.nflags gc, .slice Ca E.classes.length cc, .slice Ma ml mc, n7, n8, n9, n10, n11, n12] 34)) (.cells #[m0, m1, .slice Aa E.args.length ac, m3, m4] 48)) (.cells #[.int .i64 op, .int .i64 wd, .int .i64 (j : Int), .int .i64 b, .slice K kl kc] 42)) w.heap.size [n0, n1, .slice (some ⟨g, o, none⟩) E.files.length fc, n3, .slice Ga E.nflags gc, .slice Ca E.classes.length cc, .slice Ma ml mc, n7, n8, n9, n10, n11, n12]) := Lib.hid (BlkAt.fr BlkAt.alloc (Fr.alloc (Fr.alloc (Fr.refl _) _) _))
  have HB4 : Hid (BlkAt (World.alloc (World.alloc (World.alloc w (.cells #[n0, n1, .slice (some ⟨g, o, none⟩) E.files.length fc, n3, .slice Ga E.nflags gc, .slice Ca E.classes.length cc, .slice Ma ml mc, n7, n8, n9, n10, n11, n12] 34)) (.cells #[m0, m1, .slice Aa E.args.length ac, m3, m4] 48)) (.cells #[.int .i64 op, .int .i64 wd, .int .i64 (j : Int), .int .i64 b, .slice K kl kc] 42)) (w.heap.size + 1) [m0, m1, .slice Aa E.args.length ac, m3, m4]) := Lib.hid (BlkAt.fr (by have := BlkAt.alloc (w := World.alloc w (.cells #[n0, n1, .slice (some ⟨g, o, none⟩) E.files.length fc, n3, .slice Ga E.nflags gc, .slice Ca E.classes.length cc, .slice Ma ml mc, n7, n8, n9, n10, n11, n12] 34)) (t := 48) (cs := #[m0, m1, .slice Aa E.args.length ac, m3, m4]); simpa using this) (Fr.alloc (Fr.refl _) _))
  have HB5 : Hid (BlkAt (World.alloc (World.alloc (World.alloc w (.cells #[n0, n1, .slice (some ⟨g, o, none⟩) E.files.length fc, n3, .slice Ga E.nflags gc, .slice Ca E.classes.length cc, .slice Ma ml mc, n7, n8, n9, n10, n11, n12] 34)) (.cells #[m0, m1, .slice Aa E.args.length ac, m3, m4] 48)) (.cells #[.int .i64 op, .int .i64 wd, .int .i64 (j : Int), .int .i64 b, .slice K kl kc] 42)) (w.heap.size + 1 + 1) [.int .i64 op, .int .i64 wd, .int .i64 (j : Int), .int .i64 b, .slice K kl kc]) := Lib.hid (by have := BlkAt.alloc (w := World.alloc (World.alloc w (.cells #[n0, n1, .slice (some ⟨g, o, none⟩) E.files.length fc, n3, .slice Ga E.nflags gc, .slice Ca E.classes.length cc, .slice Ma ml mc, n7, n8, n9, n10, n11, n12] 34)) (.cells #[m0, m1, .slice Aa E.args.length ac, m3, m4] 48)) (t := 42) (cs := #[.int .i64 op, .int .i64 wd, .int .i64 (j : Int), .int .i64 b, .slice K kl kc]); simpa using this)
  clear hE hfb he hf
  go_enter Tryz.func25, Tryz.ntmps25
  go_wp2_with (first
    | (go_at_call 26; refine (HP.out _).mono ?_; rintro e w1 ⟨rfl, rfl⟩)
    | (go_at_call 59; refine (HF.out _).mono ?_; rintro e w1 ⟨rfl, hf⟩; have HF1 := Lib.hid (HW.out.call hf); have d2 := HB3.out.fr hf 2 _ rfl; have d5 := HB3.out.fr hf 5 _ rfl; have f2 := HB4.out.fr hf 2 _ rfl; have t2 := HB5.out.fr hf 2 _ rfl; have t3 := HB5.out.fr hf 3 _ rfl; have e0 := HF1.out.get h0; have e1 := HF1.out.get h1; have e2 := HF1.out.get h2; have e3 := HF1.out.get h3; have zd := lt_of_cell d2; have zf := lt_of_cell f2; have zt := lt_of_cell t2; have ze := lt_of_cell e0; clear hf))
  go_ret
  exact ⟨rfl, Fr.alloc HF1.out _⟩
set_option maxHeartbeats 12800000 in
set_option maxRecDepth 100000 in
theorem rreg_noArg (hE : EnvAt E w Fa Ca Aa) (op wd b : Int) (a : Int) {f : Int × Int × Int} (hf : fileO E a = some f) (hb1 : ¬ (b < 0 ∧ -f.1 ≤ b)) (hx : plB b E.args.length = false) (K : Option Addr) (kl kc : Nat) :
    Calls Tryz.prog 25 #[.agg #[n0, n1, .slice Fa E.files.length fc, n3, .slice Ga E.nflags gc, .slice Ca E.classes.length cc, .slice Ma ml mc, n7, n8, n9, n10, n11, n12], .agg #[m0, m1, .slice Aa E.args.length ac, m3, m4], .agg #[.int .i64 op, .int .i64 wd, .int .i64 a, .int .i64 b, .slice K kl kc]] w fun e w' => e = .returned (.int .i64 0) ∧ Fr w w' := by
  obtain ⟨j, hj, rfl, he, hfb⟩ := fileO_file hf
  obtain ⟨g, o, rfl, n, h0, h1, h2, h3⟩ := hE.files.at hj
  rw [Nat.mul_comm 4 j] at h0 h1 h2 h3
  have hbl := lt_of_cell h0
  have hbl1 : g < w.heap.size + 1 := by omega
  have hbl2 : g < w.heap.size + 1 + 1 := by omega
  have hji : (j : Int) < (E.files.length : Int) := by omega
  have hng : IntKind.i64.wrap (-f.1) = -f.1 := by
    have h := hfb
    simp only [fileB, Bool.and_eq_true, decide_eq_true_eq] at h
    rw [IntKind.wrap_i64]; omega
  have HP := Lib.hid (fun w => (show plB (j : Int) E.files.length = true by simp [plB_nat, hj]) ▸ rplace_any (j : Int) E.files.length w)
  have HF := Lib.hid (fun w => hfb ▸ rfile_any f n w)
  rw [he] at h1 h2 h3
  have HW : Hid (Fr w (World.alloc (World.alloc (World.alloc w (.cells #[n0, n1, .slice (some ⟨g, o, none⟩) E.files.length fc, n3, .slice Ga E.nflags gc, .slice Ca E.classes.length cc, .slice Ma ml mc, n7, n8, n9, n10, n11, n12] 34)) (.cells #[m0, m1, .slice Aa E.args.length ac, m3, m4] 48)) (.cells #[.int .i64 op, .int .i64 wd, .int .i64 (j : Int), .int .i64 b, .slice K kl kc] 42))) := Lib.hid (Fr.alloc (Fr.alloc (Fr.alloc (Fr.refl w) _) _) _)
  have HB3 : Hid (BlkAt (World.alloc (World.alloc (World.alloc w (.cells #[n0, n1, .slice (some ⟨g, o, none⟩) E.files.length fc, n3, .slice Ga E.nflags gc, .slice Ca E.classes.length cc, .slice Ma ml mc, n7, n8, n9, n10, n11, n12] 34)) (.cells #[m0, m1, .slice Aa E.args.length ac, m3, m4] 48)) (.cells #[.int .i64 op, .int .i64 wd, .int .i64 (j : Int), .int .i64 b, .slice K kl kc] 42)) w.heap.size [n0, n1, .slice (some ⟨g, o, none⟩) E.files.length fc, n3, .slice Ga E.nflags gc, .slice Ca E.classes.length cc, .slice Ma ml mc, n7, n8, n9, n10, n11, n12]) := Lib.hid (BlkAt.fr BlkAt.alloc (Fr.alloc (Fr.alloc (Fr.refl _) _) _))
  have HB4 : Hid (BlkAt (World.alloc (World.alloc (World.alloc w (.cells #[n0, n1, .slice (some ⟨g, o, none⟩) E.files.length fc, n3, .slice Ga E.nflags gc, .slice Ca E.classes.length cc, .slice Ma ml mc, n7, n8, n9, n10, n11, n12] 34)) (.cells #[m0, m1, .slice Aa E.args.length ac, m3, m4] 48)) (.cells #[.int .i64 op, .int .i64 wd, .int .i64 (j : Int), .int .i64 b, .slice K kl kc] 42)) (w.heap.size + 1) [m0, m1, .slice Aa E.args.length ac, m3, m4]) := Lib.hid (BlkAt.fr (by have := BlkAt.alloc (w := World.alloc w (.cells #[n0, n1, .slice (some ⟨g, o, none⟩) E.files.length fc, n3, .slice Ga E.nflags gc, .slice Ca E.classes.length cc, .slice Ma ml mc, n7, n8, n9, n10, n11, n12] 34)) (t := 48) (cs := #[m0, m1, .slice Aa E.args.length ac, m3, m4]); simpa using this) (Fr.alloc (Fr.refl _) _))
  have HB5 : Hid (BlkAt (World.alloc (World.alloc (World.alloc w (.cells #[n0, n1, .slice (some ⟨g, o, none⟩) E.files.length fc, n3, .slice Ga E.nflags gc, .slice Ca E.classes.length cc, .slice Ma ml mc, n7, n8, n9, n10, n11, n12] 34)) (.cells #[m0, m1, .slice Aa E.args.length ac, m3, m4] 48)) (.cells #[.int .i64 op, .int .i64 wd, .int .i64 (j : Int), .int .i64 b, .slice K kl kc] 42)) (w.heap.size + 1 + 1) [.int .i64 op, .int .i64 wd, .int .i64 (j : Int), .int .i64 b, .slice K kl kc]) := Lib.hid (by have := BlkAt.alloc (w := World.alloc (World.alloc w (.cells #[n0, n1, .slice (some ⟨g, o, none⟩) E.files.length fc, n3, .slice Ga E.nflags gc, .slice Ca E.classes.length cc, .slice Ma ml mc, n7, n8, n9, n10, n11, n12] 34)) (.cells #[m0, m1, .slice Aa E.args.length ac, m3, m4] 48)) (t := 42) (cs := #[.int .i64 op, .int .i64 wd, .int .i64 (j : Int), .int .i64 b, .slice K kl kc]); simpa using this)
  have HX := Lib.hid (fun w => hx ▸ rplace_any b E.args.length w)
  clear hE hfb he hf hx
  rcases (show (b < 0) ∧ ¬ -f.1 ≤ b ∨ ¬ b < 0 by omega) with ⟨hb2, hb3⟩ | hb2
  all_goals (
  go_enter Tryz.func25, Tryz.ntmps25
  go_wp2_with (first
    | (go_at_call 26; refine (HP.out _).mono ?_; rintro e w1 ⟨rfl, rfl⟩)
    | (go_at_call 59; refine (HF.out _).mono ?_; rintro e w1 ⟨rfl, hf⟩; have HF1 := Lib.hid (HW.out.call hf); have d2 := HB3.out.fr hf 2 _ rfl; have d5 := HB3.out.fr hf 5 _ rfl; have f2 := HB4.out.fr hf 2 _ rfl; have t2 := HB5.out.fr hf 2 _ rfl; have t3 := HB5.out.fr hf 3 _ rfl; have e0 := HF1.out.get h0; have e1 := HF1.out.get h1; have e2 := HF1.out.get h2; have e3 := HF1.out.get h3; have zd := lt_of_cell d2; have zf := lt_of_cell f2; have zt := lt_of_cell t2; have ze := lt_of_cell e0; clear hf))
  go_quiet ((go_at_call 26; refine Calls.quiet_of_same (HX.out _)))
  go_wp2
  go_ret
  exact ⟨rfl, Fr.drewN (Fr.alloc HF1.out _) _⟩)
set_option maxHeartbeats 12800000 in
set_option maxRecDepth 100000 in
theorem rreg_noClass (hE : EnvAt E w Fa Ca Aa) (op wd : Int) (a : Int) {f : Int × Int × Int} (hf : fileO E a = some f) {k : Nat} (hk : k < E.args.length) (hx : plB E.args[k] E.classes.length = false) (K : Option Addr) (kl kc : Nat) :
    Calls Tryz.prog 25 #[.agg #[n0, n1, .slice Fa E.files.length fc, n3, .slice Ga E.nflags gc, .slice Ca E.classes.length cc, .slice Ma ml mc, n7, n8, n9, n10, n11, n12], .agg #[m0, m1, .slice Aa E.args.length ac, m3, m4], .agg #[.int .i64 op, .int .i64 wd, .int .i64 a, .int .i64 (k : Int), .slice K kl kc]] w fun e w' => e = .returned (.int .i64 0) ∧ Fr w w' := by
  obtain ⟨ag, ao, rfl, an, a0, a1⟩ := hE.args.at hk
  rw [Nat.mul_comm 2 k] at a0 a1
  have hki : (k : Int) < (E.args.length : Int) := by omega
  have hk0 : ¬ (k : Int) < 0 := by omega
  have HX := Lib.hid (fun w => (show plB (k : Int) E.args.length = true by simp [plB_nat, hk]) ▸ rplace_any (k : Int) E.args.length w)
  obtain ⟨j, hj, rfl, he, hfb⟩ := fileO_file hf
  obtain ⟨g, o, rfl, n, h0, h1, h2, h3⟩ := hE.files.at hj
  rw [Nat.mul_comm 4 j] at h0 h1 h2 h3
  have hbl := lt_of_cell h0
  have hbl1 : g < w.heap.size + 1 := by omega
  have hbl2 : g < w.heap.size + 1 + 1 := by omega
  have hji : (j : Int) < (E.files.length : Int) := by omega
  have hng : IntKind.i64.wrap (-f.1) = -f.1 := by
    have h := hfb
    simp only [fileB, Bool.and_eq_true, decide_eq_true_eq] at h
    rw [IntKind.wrap_i64]; omega
  have HP := Lib.hid (fun w => (show plB (j : Int) E.files.length = true by simp [plB_nat, hj]) ▸ rplace_any (j : Int) E.files.length w)
  have HF := Lib.hid (fun w => hfb ▸ rfile_any f n w)
  rw [he] at h1 h2 h3
  have HW : Hid (Fr w (World.alloc (World.alloc (World.alloc w (.cells #[n0, n1, .slice (some ⟨g, o, none⟩) E.files.length fc, n3, .slice Ga E.nflags gc, .slice Ca E.classes.length cc, .slice Ma ml mc, n7, n8, n9, n10, n11, n12] 34)) (.cells #[m0, m1, .slice (some ⟨ag, ao, none⟩) E.args.length ac, m3, m4] 48)) (.cells #[.int .i64 op, .int .i64 wd, .int .i64 (j : Int), .int .i64 (k : Int), .slice K kl kc] 42))) := Lib.hid (Fr.alloc (Fr.alloc (Fr.alloc (Fr.refl w) _) _) _)
  have HB3 : Hid (BlkAt (World.alloc (World.alloc (World.alloc w (.cells #[n0, n1, .slice (some ⟨g, o, none⟩) E.files.length fc, n3, .slice Ga E.nflags gc, .slice Ca E.classes.length cc, .slice Ma ml mc, n7, n8, n9, n10, n11, n12] 34)) (.cells #[m0, m1, .slice (some ⟨ag, ao, none⟩) E.args.length ac, m3, m4] 48)) (.cells #[.int .i64 op, .int .i64 wd, .int .i64 (j : Int), .int .i64 (k : Int), .slice K kl kc] 42)) w.heap.size [n0, n1, .slice (some ⟨g, o, none⟩) E.files.length fc, n3, .slice Ga E.nflags gc, .slice Ca E.classes.length cc, .slice Ma ml mc, n7, n8, n9, n10, n11, n12]) := Lib.hid (BlkAt.fr BlkAt.alloc (Fr.alloc (Fr.alloc (Fr.refl _) _) _))
  have HB4 : Hid (BlkAt (World.alloc (World.alloc (World.alloc w (.cells #[n0, n1, .slice (some ⟨g, o, none⟩) E.files.length fc, n3, .slice Ga E.nflags gc, .slice Ca E.classes.length cc, .slice Ma ml mc, n7, n8, n9, n10, n11, n12] 34)) (.cells #[m0, m1, .slice (some ⟨ag, ao, none⟩) E.args.length ac, m3, m4] 48)) (.cells #[.int .i64 op, .int .i64 wd, .int .i64 (j : Int), .int .i64 (k : Int), .slice K kl kc] 42)) (w.heap.size + 1) [m0, m1, .slice (some ⟨ag, ao, none⟩) E.args.length ac, m3, m4]) := Lib.hid (BlkAt.fr (by have := BlkAt.alloc (w := World.alloc w (.cells #[n0, n1, .slice (some ⟨g, o, none⟩) E.files.length fc, n3, .slice Ga E.nflags gc, .slice Ca E.classes.length cc, .slice Ma ml mc, n7, n8, n9, n10, n11, n12] 34)) (t := 48) (cs := #[m0, m1, .slice (some ⟨ag, ao, none⟩) E.args.length ac, m3, m4]); simpa using this) (Fr.alloc (Fr.refl _) _))
  have HB5 : Hid (BlkAt (World.alloc (World.alloc (World.alloc w (.cells #[n0, n1, .slice (some ⟨g, o, none⟩) E.files.length fc, n3, .slice Ga E.nflags gc, .slice Ca E.classes.length cc, .slice Ma ml mc, n7, n8, n9, n10, n11, n12] 34)) (.cells #[m0, m1, .slice (some ⟨ag, ao, none⟩) E.args.length ac, m3, m4] 48)) (.cells #[.int .i64 op, .int .i64 wd, .int .i64 (j : Int), .int .i64 (k : Int), .slice K kl kc] 42)) (w.heap.size + 1 + 1) [.int .i64 op, .int .i64 wd, .int .i64 (j : Int), .int .i64 (k : Int), .slice K kl kc]) := Lib.hid (by have := BlkAt.alloc (w := World.alloc (World.alloc w (.cells #[n0, n1, .slice (some ⟨g, o, none⟩) E.files.length fc, n3, .slice Ga E.nflags gc, .slice Ca E.classes.length cc, .slice Ma ml mc, n7, n8, n9, n10, n11, n12] 34)) (.cells #[m0, m1, .slice (some ⟨ag, ao, none⟩) E.args.length ac, m3, m4] 48)) (t := 42) (cs := #[.int .i64 op, .int .i64 wd, .int .i64 (j : Int), .int .i64 (k : Int), .slice K kl kc]); simpa using this)
  have HY := Lib.hid (fun w => hx ▸ rplace_any E.args[k] E.classes.length w)
  generalize E.args[k] = x at *
  clear hE hfb he hf hx
  go_enter Tryz.func25, Tryz.ntmps25
  go_wp2_with (first
    | (go_at_call 26; refine (HP.out _).mono ?_; rintro e w1 ⟨rfl, rfl⟩)
    | (go_at_call 59; refine (HF.out _).mono ?_; rintro e w1 ⟨rfl, hf⟩; have HF1 := Lib.hid (HW.out.call hf); have d2 := HB3.out.fr hf 2 _ rfl; have d5 := HB3.out.fr hf 5 _ rfl; have f2 := HB4.out.fr hf 2 _ rfl; have t2 := HB5.out.fr hf 2 _ rfl; have t3 := HB5.out.fr hf 3 _ rfl; have e0 := HF1.out.get h0; have e1 := HF1.out.get h1; have e2 := HF1.out.get h2; have e3 := HF1.out.get h3; have zd := lt_of_cell d2; have zf := lt_of_cell f2; have zt := lt_of_cell t2; have ze := lt_of_cell e0; have x1 := HF1.out.get a1; have zx := lt_of_cell x1; clear hf))
  go_quiet ((first | (go_at_call 26; with_reducible refine Calls.quiet_of_same (HX.out _)) | (go_at_call 26; with_reducible refine Calls.quiet_of_same (HY.out _))))
  go_wp2
  go_ret
  exact ⟨rfl, Fr.drewN (Fr.alloc HF1.out _) _⟩
end
end Go.Proofs.YtcndmiolaheaeabGreatDoor
