/- The width of a register that a term names, of the reference: its operand's class is there. -/
import Derived.Test.YtcndmiolaheaeabGreatDoorVk
namespace Go.Proofs.YtcndmiolaheaeabGreatDoor
open Go.RowKit
set_option linter.unusedSimpArgs false
set_option linter.unusedVariables false

section
variable {E : Env} {w : World} {Fa Ca Aa Ga Ma : Option Addr} {n0 n1 n3 n7 n8 n9 n10 n11 n12 m0 m1 m3 m4 : Value} {fc gc cc ml mc ac : Nat}
set_option maxHeartbeats 12800000 in
set_option maxRecDepth 100000 in
theorem rreg_at (hE : EnvAt E w Fa Ca Aa) (op wd : Int) (a : Int) {f : Int × Int × Int} (hf : fileO E a = some f) {k l : Nat} (hk : k < E.args.length) (hl : l < E.classes.length) (hx : E.args[k] = (l : Int)) (K : Option Addr) (kl kc : Nat) :
    Calls Tryz.prog 25 #[.agg #[n0, n1, .slice Fa E.files.length fc, n3, .slice Ga E.nflags gc, .slice Ca E.classes.length cc, .slice Ma ml mc, n7, n8, n9, n10, n11, n12], .agg #[m0, m1, .slice Aa E.args.length ac, m3, m4], .agg #[.int .i64 op, .int .i64 wd, .int .i64 a, .int .i64 (k : Int), .slice K kl kc]] w fun e w' => e = .returned (.int .i64 (if E.classes[l] = (1, a) then f.2.1 else 0)) ∧ Fr w w' := by
  obtain ⟨ag, ao, rfl, an, a0, a1⟩ := hE.args.at hk
  rw [Nat.mul_comm 2 k] at a0 a1
  have hki : (k : Int) < (E.args.length : Int) := by omega
  have hk0 : ¬ (k : Int) < 0 := by omega
  have HX := Lib.hid (fun w => (show plB (k : Int) E.args.length = true by simp [plB_nat, hk]) ▸ rplace_any (k : Int) E.args.length w)
  obtain ⟨cg, co, rfl, cn, cu, cv, cx, cy, cl, cq, q0, q1, q2, q3, q4, q5, q6⟩ := hE.classes.at hl
  rw [Nat.mul_comm 7 l] at q0 q1 q2 q3 q4 q5 q6
  rw [hx] at a1
  have hli : (l : Int) < (E.classes.length : Int) := by omega
  have HY := Lib.hid (fun w => (show plB (l : Int) E.classes.length = true by simp [plB_nat, hl]) ▸ rplace_any (l : Int) E.classes.length w)
  obtain ⟨j, hj, rfl, he, hfb⟩ := fileO_file hf
  obtain ⟨g, o, rfl, n, h0, h1, h2, h3⟩ := hE.files.at hj
  rw [Nat.mul_comm 4 j] at h0 h1 h2 h3
  have hbl := lt_of_cell h0
  have hbl1 : g < w.heap.size + 1 := by omega
  have hbl2 : g < w.heap.size + 1 + 1 := by omega
  have hji : (j : Int) < (E.files.length : Int) := by omega
  have hng : IntKind.i64.wrap (-f.1) = -f.1 := by
    have h := hfb
    simp only [fileB, Bool.and_eq_true, decide_eq_true_eq] at h
    rw [IntKind.wrap_i64]; omega
  have HP := Lib.hid (fun w => (show plB (j : Int) E.files.length = true by simp [plB_nat, hj]) ▸ rplace_any (j : Int) E.files.length w)
  have HF := Lib.hid (fun w => hfb ▸ rfile_any f n w)
  rw [he] at h1 h2 h3
  have HW : Hid (Fr w (World.alloc (World.alloc (World.alloc w (.cells #[n0, n1, .slice (some ⟨g, o, none⟩) E.files.length fc, n3, .slice Ga E.nflags gc, .slice (some ⟨cg, co, none⟩) E.classes.length cc, .slice Ma ml mc, n7, n8, n9, n10, n11, n12] 34)) (.cells #[m0, m1, .slice (some ⟨ag, ao, none⟩) E.args.length ac, m3, m4] 48)) (.cells #[.int .i64 op, .int .i64 wd, .int .i64 (j : Int), .int .i64 (k : Int), .slice K kl kc] 42))) := Lib.hid (Fr.alloc (Fr.alloc (Fr.alloc (Fr.refl w) _) _) _)
  have HB3 : Hid (BlkAt (World.alloc (World.alloc (World.alloc w (.cells #[n0, n1, .slice (some ⟨g, o, none⟩) E.files.length fc, n3, .slice Ga E.nflags gc, .slice (some ⟨cg, co, none⟩) E.classes.length cc, .slice Ma ml mc, n7, n8, n9, n10, n11, n12] 34)) (.cells #[m0, m1, .slice (some ⟨ag, ao, none⟩) E.args.length ac, m3, m4] 48)) (.cells #[.int .i64 op, .int .i64 wd, .int .i64 (j : Int), .int .i64 (k : Int), .slice K kl kc] 42)) w.heap.size [n0, n1, .slice (some ⟨g, o, none⟩) E.files.length fc, n3, .slice Ga E.nflags gc, .slice (some ⟨cg, co, none⟩) E.classes.length cc, .slice Ma ml mc, n7, n8, n9, n10, n11, n12]) := Lib.hid (BlkAt.fr BlkAt.alloc (Fr.alloc (Fr.alloc (Fr.refl _) _) _))
  have HB4 : Hid (BlkAt (World.alloc (World.alloc (World.alloc w (.cells #[n0, n1, .slice (some ⟨g, o, none⟩) E.files.length fc, n3, .slice Ga E.nflags gc, .slice (some ⟨cg, co, none⟩) E.classes.length cc, .slice Ma ml mc, n7, n8, n9, n10, n11, n12] 34)) (.cells #[m0, m1, .slice (some ⟨ag, ao, none⟩) E.args.length ac, m3, m4] 48)) (.cells #[.int .i64 op, .int .i64 wd, .int .i64 (j : Int), .int .i64 (k : Int), .slice K kl kc] 42)) (w.heap.size + 1) [m0, m1, .slice (some ⟨ag, ao, none⟩) E.args.length ac, m3, m4]) := Lib.hid (BlkAt.fr (by have := BlkAt.alloc (w := World.alloc w (.cells #[n0, n1, .slice (some ⟨g, o, none⟩) E.files.length fc, n3, .slice Ga E.nflags gc, .slice (some ⟨cg, co, none⟩) E.classes.length cc, .slice Ma ml mc, n7, n8, n9, n10, n11, n12] 34)) (t := 48) (cs := #[m0, m1, .slice (some ⟨ag, ao, none⟩) E.args.length ac, m3, m4]); simpa using this) (Fr.alloc (Fr.refl _) _))
  have HB5 : Hid (BlkAt (World.alloc (World.alloc (World.alloc w (.cells #[n0, n1, .slice (some ⟨g, o, none⟩) E.files.length fc, n3, .slice Ga E.nflags gc, .slice (some ⟨cg, co, none⟩) E.classes.length cc, .slice Ma ml mc, n7, n8, n9, n10, n11, n12] 34)) (.cells #[m0, m1, .slice (some ⟨ag, ao, none⟩) E.args.length ac, m3, m4] 48)) (.cells #[.int .i64 op, .int .i64 wd, .int .i64 (j : Int), .int .i64 (k : Int), .slice K kl kc] 42)) (w.heap.size + 1 + 1) [.int .i64 op, .int .i64 wd, .int .i64 (j : Int), .int .i64 (k : Int), .slice K kl kc]) := Lib.hid (by have := BlkAt.alloc (w := World.alloc (World.alloc w (.cells #[n0, n1, .slice (some ⟨g, o, none⟩) E.files.length fc, n3, .slice Ga E.nflags gc, .slice (some ⟨cg, co, none⟩) E.classes.length cc, .slice Ma ml mc, n7, n8, n9, n10, n11, n12] 34)) (.cells #[m0, m1, .slice (some ⟨ag, ao, none⟩) E.args.length ac, m3, m4] 48)) (t := 42) (cs := #[.int .i64 op, .int .i64 wd, .int .i64 (j : Int), .int .i64 (k : Int), .slice K kl kc]); simpa using this)
  generalize E.classes[l] = c at *
  obtain ⟨c1, c2⟩ := c
  clear hE hfb he hf hx
  go_enter Tryz.func25, Tryz.ntmps25
  go_wp2_with (first
    | (go_at_call 26; refine (HP.out _).mono ?_; rintro e w1 ⟨rfl, rfl⟩)
    | (go_at_call 59; refine (HF.out _).mono ?_; rintro e w1 ⟨rfl, hf⟩; have HF1 := Lib.hid (HW.out.call hf); have d2 := HB3.out.fr hf 2 _ rfl; have d5 := HB3.out.fr hf 5 _ rfl; have f2 := HB4.out.fr hf 2 _ rfl; have t2 := HB5.out.fr hf 2 _ rfl; have t3 := HB5.out.fr hf 3 _ rfl; have e0 := HF1.out.get h0; have e1 := HF1.out.get h1; have e2 := HF1.out.get h2; have e3 := HF1.out.get h3; have zd := lt_of_cell d2; have zf := lt_of_cell f2; have zt := lt_of_cell t2; have ze := lt_of_cell e0; have x1 := HF1.out.get a1; have zx := lt_of_cell x1; have y0 := HF1.out.get q0; have y1 := HF1.out.get q1; have y2 := HF1.out.get q2; have y3 := HF1.out.get q3; have y4 := HF1.out.get q4; have y5 := HF1.out.get q5; have y6 := HF1.out.get q6; have zq := lt_of_cell y0; clear hf))
  go_quiet ((first | (go_at_call 26; with_reducible refine Calls.quiet_of_same (HX.out _)) | (go_at_call 26; with_reducible refine Calls.quiet_of_same (HY.out _))))
  go_wp2
  clear q0 q1 q2 q3 q4 q5 q6 a0 a1 h0 h1 h2 h3 e0 e3 d2
  go_region_held3 (fun w' => World.cell? w' ⟨w.heap.size, 5, none⟩ = some (.slice (some ⟨cg, co, none⟩) E.classes.length cc) ∧ World.cell? w' ⟨w.heap.size + 1, 2, none⟩ = some (.slice (some ⟨ag, ao, none⟩) E.args.length ac) ∧ World.cell? w' ⟨w.heap.size + 1 + 1, 3, none⟩ = some (.int .i64 (k : Int)) ∧ World.cell? w' ⟨ag, ao + k * 2 + 1, none⟩ = some (.int .i64 (l : Int)) ∧ World.cell? w' ⟨cg, co + l * 7, none⟩ = some (.string cn) ∧ World.cell? w' ⟨cg, co + l * 7 + 1, none⟩ = some (.int .i64 c1) ∧ World.cell? w' ⟨cg, co + l * 7 + 2, none⟩ = some (.int .i64 c2) ∧ World.cell? w' ⟨cg, co + l * 7 + 3, none⟩ = some (.int .i64 cu) ∧ World.cell? w' ⟨cg, co + l * 7 + 4, none⟩ = some (.int .i64 cv) ∧ World.cell? w' ⟨cg, co + l * 7 + 5, none⟩ = some (.int .i64 cx) ∧ World.cell? w' ⟨cg, co + l * 7 + 6, none⟩ = some (.slice cy cl cq)) (simp [go_sem, *]) (fail)
  go_wp2
  all_goals (go_ret; exact ⟨ret_int (by simp_all), by repeat (first | with_reducible exact HF1.out | with_reducible apply Fr.drewN | with_reducible apply Fr.drew | with_reducible apply Fr.alloc | (with_reducible refine Fr.set ?_ (by simp) _))⟩)
theorem rreg_any (hE : EnvAt E w Fa Ca Aa) (op wd a b : Int) (K : Option Addr) (kl kc : Nat) :
    Calls Tryz.prog 25 #[.agg #[n0, n1, .slice Fa E.files.length fc, n3, .slice Ga E.nflags gc, .slice Ca E.classes.length cc, .slice Ma ml mc, n7, n8, n9, n10, n11, n12], .agg #[m0, m1, .slice Aa E.args.length ac, m3, m4], .agg #[.int .i64 op, .int .i64 wd, .int .i64 a, .int .i64 b, .slice K kl kc]] w fun e w' => e = .returned (.int .i64 (regW E a b)) ∧ Fr w w' := by
  cases hf : fileO E a with
  | none =>
    have h0 : regW E a b = 0 := by unfold regW; rw [hf]
    rw [h0]
    cases ha : plB a E.files.length with
    | false => exact rreg_noPlace hE op wd b a ha K kl kc
    | true =>
      obtain ⟨j, rfl, hj⟩ := plB_ex ha
      cases hfb : fileB E.files[j] with
      | false => exact rreg_noFile hE op wd b hj hfb K kl kc
      | true => rw [fileO_at hj, hfb] at hf; cases hf
  | some f =>
    have hr : regW E a b = if clsO E b = some (1, a) then f.2.1 else if b < 0 ∧ -f.1 ≤ b then f.2.1 else 0 := by unfold regW; rw [hf]
    by_cases hb : b < 0 ∧ -f.1 ≤ b
    · have h0 : regW E a b = f.2.1 := by rw [hr, if_pos hb]; split <;> rfl
      rw [h0]; exact rreg_neg hE op wd b a hf hb.1 hb.2 K kl kc
    · rw [if_neg hb] at hr
      cases hx : plB b E.args.length with
      | false =>
        have h0 : regW E a b = 0 := by rw [hr, clsO_noArg hx]; simp
        rw [h0]; exact rreg_noArg hE op wd b a hf hb hx K kl kc
      | true =>
        obtain ⟨k, rfl, hk⟩ := plB_ex hx
        cases hy : plB E.args[k] E.classes.length with
        | false =>
          have h0 : regW E a (k : Int) = 0 := by rw [hr, clsO_noClass hk hy]; simp
          rw [h0]; exact rreg_noClass hE op wd a hf hk hy K kl kc
        | true =>
          obtain ⟨l, e, hl⟩ := plB_ex hy
          have h0 : regW E a (k : Int) = if E.classes[l] = (1, a) then f.2.1 else 0 := by
            rw [hr, clsO_at hk hl e]; simp
          rw [h0]; exact rreg_at hE op wd a hf hk hl e K kl kc
end
end Go.Proofs.YtcndmiolaheaeabGreatDoor
