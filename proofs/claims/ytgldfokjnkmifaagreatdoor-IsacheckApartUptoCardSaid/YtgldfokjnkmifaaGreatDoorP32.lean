/- The reference's small functions on descriptions. The reference's Class: of a class that is right. The reference's Value: the value that encoded bits make, of a class that is right. What bytes' bits say of a form's layout, and of two that are disjoint. A bit of a piece is laid: of the program, whatever the piece. What a round of lay's second loop has. -/
import Derived.Test.YtgldfokjnkmifaaGreatDoorP31
import Derived.Test.YtgldfokjnkmifaaGreatDoorP21
import Derived.Test.YtgldfokjnkmifaaGreatDoorP19
import Derived.Test.YtgldfokjnkmifaaGreatDoorP28
namespace Go.Proofs.YtgldfokjnkmifaaGreatDoor
open Go.RowKit
set_option linter.unusedSimpArgs false
set_option linter.unusedVariables false

theorem at_any (o : Int) (s n : Nat) (hs : s < n) (hn : n ≤ 1000000) (w : World) : Calls Tryz.prog 90 #[.int .i64 o, .int .i64 (s : Int), .int .i64 (n : Int)] w fun e w' => e = .returned (.tuple #[.int .i64 ((plcN o s n / 8 : Nat) : Int), .int .i64 ((plcN o s n % 8 : Nat) : Int)]) ∧ w = w' := by
  unfold plcN
  by_cases ho : o = 1
  · subst ho
    rw [if_pos rfl]
    obtain ⟨r, hr⟩ : ∃ r : Nat, n - 1 - s = r := ⟨_, rfl⟩
    have hr2 : (n : Int) - 1 - (s : Int) = (r : Int) := by omega
    have e1 : Int.tdiv (r : Int) 8 = ((r / 8 : Nat) : Int) := by simp
    have e2 : Int.tmod (r : Int) 8 = ((r % 8 : Nat) : Int) := by rw [Int.tmod_eq_emod_of_nonneg (by omega)]; simp
    rw [hr]
    clear hr
    go_enter Tryz.func90, Tryz.ntmps90
    go_wp2
    go_ret2
    exact ⟨rfl, rfl⟩
  · rw [if_neg ho]
    have e1 : Int.tdiv (s : Int) 8 = ((s / 8 : Nat) : Int) := by simp
    have e2 : Int.tmod (s : Int) 8 = ((s % 8 : Nat) : Int) := by rw [Int.tmod_eq_emod_of_nonneg (by omega)]; simp
    have e3 : (s / 8 * 8 + 7 - s % 8) / 8 = s / 8 := by omega
    have e4 : (((s / 8 * 8 + 7 - s % 8) % 8 : Nat) : Int) = 7 - ((s % 8 : Nat) : Int) := by omega
    rw [e3, e4]
    have hm : s % 8 < 8 := Nat.mod_lt _ (by decide)
    have hd : s / 8 ≤ 1000000 := by omega
    clear e3 e4
    generalize s % 8 = sm at *
    generalize s / 8 = sd at *
    go_enter Tryz.func90, Tryz.ntmps90
    go_wp2
    go_ret2
    exact ⟨rfl, rfl⟩
end Go.Proofs.YtgldfokjnkmifaaGreatDoor
namespace Go.Proofs.YtgldfokjnkmifaaGreatDoor
open Go.RowKit
set_option linter.unusedSimpArgs false
set_option linter.unusedVariables false

def RelCl (W : World) (plus : Int) (N : Nat) (lv iv : Value) (wr : World) : Prop := ∃ i : Nat, i ≤ N ∧ iv = .int .i64 (i : Int) ∧ lv = .int .i64 (plus + (i : Int)) ∧ wr = W
set_option maxHeartbeats 6400000 in
set_option maxRecDepth 100000 in
theorem rclass_reg {w : World} {D : Ds} {v : Array Value} (hD : DescAt w D v) (fj : Nat) (hfj : fj < D.files.length) (hfb : fileB D.files[fj] = true) (bits plus : Int) (hb1 : 1 ≤ bits) (hb6 : bits ≤ 6) (hp0 : 0 ≤ plus) (hp : plus ≤ (D.files[fj]).1 - 2 ^ bits.toNat) (nm : ByteArray) (A : Option Addr) (l k : Nat) :
    Calls Tryz.prog 171 #[.agg v, .agg #[.string nm, .int .i64 1, .int .i64 (fj : Int), .int .i64 bits, .int .i64 0, .int .i64 plus, .slice A l k]] w fun e w' => e = .returned (.bool true) ∧ Fr w w' := by
  obtain ⟨s0, Fa, Ba, Ga, Ca, Ma, Ra, Ua, Xa, Ka, Na, Pa, fc, bc, gc, cc, mc, rc, uc, xc, kc, nl, nc, pc, rfl, h1, h2, h3, h4, h5, h6, h7, h8, h9⟩ := hD
  obtain ⟨bf, of, rfl, n0, c0, f1, f2, f3⟩ := h1.at hfj
  rw [Nat.mul_comm 4 fj] at c0 f1 f2 f3
  have hji : (fj : Int) < (D.files.length : Int) := by omega
  have HPL := Lib.hid (fun w => (show plB (fj : Int) D.files.length = true by simp [plB, hfj]) ▸ rplace_any (fj : Int) D.files.length w)
  have HFI := Lib.hid (fun n w => hfb ▸ rfile_any D.files[fj] n w)
  have hp64 : (D.files[fj]).1 ≤ 64 := by unfold fileB at hfb; simp at hfb; omega
  clear h1 h2 h3 h4 h5 h6 h7 h8 h9 hfb
  generalize D.files[fj] = f at *
  obtain ⟨f1', f2', f3'⟩ := f
  simp only at c0 f1 f2 f3 hp hp64 HFI
  have zc := lt_of_cell c0
  obtain ⟨N, hN, hN2⟩ : ∃ N : Nat, ((2 : Int) ^ bits.toNat = (N : Int) + 1) ∧ N ≤ 63 := by
    rcases (show bits = 1 ∨ bits = 2 ∨ bits = 3 ∨ bits = 4 ∨ bits = 5 ∨ bits = 6 by omega) with rfl | rfl | rfl | rfl | rfl | rfl
    · exact ⟨1, by decide, by decide⟩
    · exact ⟨3, by decide, by decide⟩
    · exact ⟨7, by decide, by decide⟩
    · exact ⟨15, by decide, by decide⟩
    · exact ⟨31, by decide, by decide⟩
    · exact ⟨63, by decide, by decide⟩
  rw [hN] at hp
  have hsh : IntKind.i64.wrap (1 * 2 ^ bits.toNat) = (N : Int) + 1 := by rw [Int.one_mul, hN]; simp [IntKind.wrap, IntKind.bits, IntKind.signed]; omega
  have hsh2 : IntKind.i64.wrap (2 ^ bits.toNat) = (N : Int) + 1 := by rw [hN]; simp [IntKind.wrap, IntKind.bits, IntKind.signed]; omega
  have HF0 := Lib.hid (show Fr w ((w.alloc (.cells #[.string s0, .int .i64 D.order, .slice (some ⟨bf, of, none⟩) D.files.length fc, .slice Ba D.als.length bc, .slice Ga D.nflags gc, .slice Ca D.cls.length cc, .slice Ma D.fms.length mc, .slice Ra D.rels.length rc, .slice Ua D.uses.length uc, .slice Xa D.rxs.length xc, .slice Ka D.mcs.length kc, .slice Na nl nc, .slice Pa D.regs.length pc] 33)).alloc (.cells #[.string nm, .int .i64 1, .int .i64 (fj : Int), .int .i64 bits, .int .i64 0, .int .i64 plus, .slice A l k] 64)) from Fr.alloc (Fr.alloc (Fr.refl w) _) _)
  have KD := Lib.hid (show BlkAt ((w.alloc (.cells #[.string s0, .int .i64 D.order, .slice (some ⟨bf, of, none⟩) D.files.length fc, .slice Ba D.als.length bc, .slice Ga D.nflags gc, .slice Ca D.cls.length cc, .slice Ma D.fms.length mc, .slice Ra D.rels.length rc, .slice Ua D.uses.length uc, .slice Xa D.rxs.length xc, .slice Ka D.mcs.length kc, .slice Na nl nc, .slice Pa D.regs.length pc] 33)).alloc (.cells #[.string nm, .int .i64 1, .int .i64 (fj : Int), .int .i64 bits, .int .i64 0, .int .i64 plus, .slice A l k] 64)) w.heap.size [.string s0, .int .i64 D.order, .slice (some ⟨bf, of, none⟩) D.files.length fc, .slice Ba D.als.length bc, .slice Ga D.nflags gc, .slice Ca D.cls.length cc, .slice Ma D.fms.length mc, .slice Ra D.rels.length rc, .slice Ua D.uses.length uc, .slice Xa D.rxs.length xc, .slice Ka D.mcs.length kc, .slice Na nl nc, .slice Pa D.regs.length pc] from BlkAt.fr (by have := BlkAt.alloc (w := w) (t := 33) (cs := #[.string s0, .int .i64 D.order, .slice (some ⟨bf, of, none⟩) D.files.length fc, .slice Ba D.als.length bc, .slice Ga D.nflags gc, .slice Ca D.cls.length cc, .slice Ma D.fms.length mc, .slice Ra D.rels.length rc, .slice Ua D.uses.length uc, .slice Xa D.rxs.length xc, .slice Ka D.mcs.length kc, .slice Na nl nc, .slice Pa D.regs.length pc]); simpa using this) (Fr.alloc (Fr.refl _) _))
  have KC := Lib.hid (show BlkAt ((w.alloc (.cells #[.string s0, .int .i64 D.order, .slice (some ⟨bf, of, none⟩) D.files.length fc, .slice Ba D.als.length bc, .slice Ga D.nflags gc, .slice Ca D.cls.length cc, .slice Ma D.fms.length mc, .slice Ra D.rels.length rc, .slice Ua D.uses.length uc, .slice Xa D.rxs.length xc, .slice Ka D.mcs.length kc, .slice Na nl nc, .slice Pa D.regs.length pc] 33)).alloc (.cells #[.string nm, .int .i64 1, .int .i64 (fj : Int), .int .i64 bits, .int .i64 0, .int .i64 plus, .slice A l k] 64)) (w.heap.size + 1) [.string nm, .int .i64 1, .int .i64 (fj : Int), .int .i64 bits, .int .i64 0, .int .i64 plus, .slice A l k] from by have := BlkAt.alloc (w := (w.alloc (.cells #[.string s0, .int .i64 D.order, .slice (some ⟨bf, of, none⟩) D.files.length fc, .slice Ba D.als.length bc, .slice Ga D.nflags gc, .slice Ca D.cls.length cc, .slice Ma D.fms.length mc, .slice Ra D.rels.length rc, .slice Ua D.uses.length uc, .slice Xa D.rxs.length xc, .slice Ka D.mcs.length kc, .slice Na nl nc, .slice Pa D.regs.length pc] 33))) (t := 64) (cs := #[.string nm, .int .i64 1, .int .i64 (fj : Int), .int .i64 bits, .int .i64 0, .int .i64 plus, .slice A l k]); simpa using this)
  go_enter Tryz.func171, Tryz.ntmps171
  go_wp2_with (first
    | (go_at_call 65; refine (HPL.out _).mono ?_; rintro e w4 ⟨rfl, rfl⟩)
    | (go_at_call 137; refine (HFI.out _ _).mono ?_; rintro e w4 ⟨rfl, hf4⟩; have HF4 := Lib.hid hf4; have g3 := KC.out.fr hf4 3 _ rfl; have g5 := KC.out.fr hf4 5 _ rfl; have g2 := KC.out.fr hf4 2 _ rfl; have d2 := KD.out.fr hf4 2 _ rfl; have y1 := (HF0.out.call hf4).get f1; have zg := lt_of_cell g3; have zd := lt_of_cell d2; have zy := lt_of_cell y1; clear hf4 HPL HFI f1 f2 f3 c0 zc))
  go_loopw [5, 6] (fun lv iv wr => RelCl w4 plus N lv iv wr) (fun _ iv _ => N - (intOf iv).toNat)
  case atStart => exact ⟨0, Nat.zero_le _, rfl, by simp, rfl⟩
  case round =>
    obtain ⟨i, hi, rfl, rfl, rfl⟩ := hrel
    by_cases hlt : i < N
    · have hii : (i : Int) < (N : Int) := by omega
      go_wp2
      go_roundw
      case rel => exact ⟨i + 1, by omega, by go_num, by go_num, rfl⟩
      case measure => simp [intOf]; omega
    · obtain rfl : i = N := by omega
      have hlf : plus + (i : Int) < f1' := by omega
      go_wp2
      go_ret
      exact ⟨ret_bool (by simp), HF0.out.call HF4.out⟩
set_option maxHeartbeats 6400000 in
set_option maxRecDepth 100000 in
theorem rclass_num {w : World} {D : Ds} {v : Array Value} (hD : DescAt w D v) (kind file bits shift : Int) (hk : kind = 2 ∧ bits + shift ≤ 62 ∨ kind = 3 ∧ bits + shift ≤ 64 ∨ kind = 4 ∧ bits + shift ≤ 64 ∨ kind = 5 ∧ bits + shift ≤ 64) (hb1 : 1 ≤ bits) (hs : 0 ≤ shift) (nm : ByteArray) (A : Option Addr) (l k : Nat) :
    Calls Tryz.prog 171 #[.agg v, .agg #[.string nm, .int .i64 kind, .int .i64 file, .int .i64 bits, .int .i64 shift, .int .i64 0, .slice A l k]] w fun e w' => e = .returned (.bool true) ∧ Fr w w' := by
  obtain ⟨s0, Fa, Ba, Ga, Ca, Ma, Ra, Ua, Xa, Ka, Na, Pa, fc, bc, gc, cc, mc, rc, uc, xc, kc, nl, nc, pc, rfl, _⟩ := hD
  rcases hk with ⟨rfl, h⟩ | ⟨rfl, h⟩ | ⟨rfl, h⟩ | ⟨rfl, h⟩
  all_goals
    go_enter Tryz.func171, Tryz.ntmps171
    go_wp2
    go_ret
    exact ⟨ret_bool (by first | rfl | (simp; done) | (simp; omega)), Fr.alloc (Fr.alloc (Fr.refl w) _) _⟩
theorem rclass_yes {w : World} {D : Ds} {v : Array Value} (hD : DescAt w D v) (c : Cl) (hc : clsB D c = true) (nm : ByteArray) (A : Option Addr) (l k : Nat) :
    Calls Tryz.prog 171 #[.agg v, .agg #[.string nm, .int .i64 c.kind, .int .i64 c.file, .int .i64 c.bits, .int .i64 c.shift, .int .i64 c.plus, .slice A l k]] w fun e w' => e = .returned (.bool true) ∧ Fr w w' := by
  obtain ⟨kind, file, bits, shift, plus, ex⟩ := c
  unfold clsB at hc
  simp only at hc ⊢
  by_cases h1 : kind = 1
  · subst h1
    rw [if_pos rfl] at hc
    unfold regB at hc
    split at hc
    · cases hc
    · rename_i f hf
      simp only [Bool.and_eq_true, decide_eq_true_eq] at hc
      obtain ⟨⟨⟨⟨c1, c2⟩, rfl⟩, c4⟩, c5⟩ := hc
      unfold fileD at hf
      split at hf
      · rename_i h0
        split at hf
        · rename_i f' hg
          split at hf
          · rename_i hb
            injection hf with hf; subst hf
            have h0' : 0 ≤ file := h0
            have hg' : D.files[file.toNat]? = some f' := hg
            clear h0 hg
            obtain ⟨fj, rfl⟩ : ∃ fj : Nat, file = (fj : Int) := ⟨file.toNat, by omega⟩
            rw [Int.toNat_natCast] at hg'
            obtain ⟨hl, e⟩ := List.getElem?_eq_some_iff.1 hg'
            subst e
            exact rclass_reg hD fj hl hb bits plus c1 c2 c4 c5 nm A l k
          · cases hf
        · cases hf
      · cases hf
  · rw [if_neg h1] at hc
    have key : ∀ most : Int, numB ⟨kind, file, bits, shift, plus, ex⟩ most = true → 1 ≤ bits ∧ 0 ≤ shift ∧ bits + shift ≤ most ∧ plus = 0 := fun most h => by
      unfold numB at h
      simp only [Bool.and_eq_true, decide_eq_true_eq] at h
      omega
    by_cases h2 : kind = 2
    · rw [if_pos h2] at hc
      obtain ⟨g1, g2, g3, rfl⟩ := key 62 hc
      exact rclass_num hD kind file bits shift (.inl ⟨h2, g3⟩) g1 g2 nm A l k
    · rw [if_neg h2] at hc
      split at hc
      · rename_i h3
        obtain ⟨g1, g2, g3, rfl⟩ := key 64 hc
        refine rclass_num hD kind file bits shift ?_ g1 g2 nm A l k
        omega
      · cases hc
end Go.Proofs.YtgldfokjnkmifaaGreatDoor
namespace Go.Proofs.YtgldfokjnkmifaaGreatDoor
open Go.RowKit
set_option linter.unusedSimpArgs false
set_option linter.unusedVariables false

set_option maxHeartbeats 3200000 in
theorem rvalue_reg (nm : ByteArray) (file bits shift plus : Int) (A : Option Addr) (l k : Nat) (n : Nat) (hp0 : 0 ≤ plus) (hp : plus ≤ 64) (hn : n < 64) (w : World) :
    Calls Tryz.prog 37 #[.agg #[.string nm, .int .i64 1, .int .i64 file, .int .i64 bits, .int .i64 shift, .int .i64 plus, .slice A l k], .int .u64 (n : Int)] w fun e w' => e = .returned (.int .i64 (plus + (n : Int))) ∧ Fr w w' := by
  have hwn := conv_n (n := n) (by omega)
  have hwm : IntKind.i64.wrap ((n : Int) + plus) = plus + (n : Int) := by rw [Int.add_comm]; exact wrap_in (by omega) (by omega)
  go_enter Tryz.func37, Tryz.ntmps37
  go_wp2
  go_ret
  exact ⟨by first | rfl | exact ret_int (by omega) | exact ret_int (by simp; omega), Fr.alloc (Fr.refl w) _⟩
set_option maxHeartbeats 3200000 in
theorem rvalue_uns (nm : ByteArray) (file plus : Int) (bits shift : Nat) (A : Option Addr) (l k : Nat) (n : Nat) (hs : bits + shift ≤ 62) (hn : n < 2 ^ bits) (w : World) :
    Calls Tryz.prog 37 #[.agg #[.string nm, .int .i64 2, .int .i64 file, .int .i64 (bits : Int), .int .i64 (shift : Int), .int .i64 plus, .slice A l k], .int .u64 (n : Int)] w fun e w' => e = .returned (.int .i64 ((n : Int) * 2 ^ shift)) ∧ Fr w w' := by
  have hb : n * 2 ^ shift < 2 ^ bits * 2 ^ shift := Nat.mul_lt_mul_of_pos_right hn (Nat.two_pow_pos _)
  have hb2 : 2 ^ bits * 2 ^ shift ≤ 2 ^ 62 := by rw [← Nat.pow_add]; exact Nat.pow_le_pow_right (by decide) hs
  have hb3 : 2 ^ bits ≤ 2 ^ 62 := Nat.pow_le_pow_right (by decide) (by omega)
  have hc : (n : Int) * 2 ^ shift = ((n * 2 ^ shift : Nat) : Int) := by simp
  have hwn := conv_n (n := n) (by omega)
  have hwm : IntKind.i64.wrap ((n : Int) * 2 ^ shift) = (n : Int) * 2 ^ shift := by rw [hc]; exact conv_n (by omega)
  have hsl : shift ≤ 62 := by omega
  clear hb hb2 hb3 hc hn hs
  go_enter Tryz.func37, Tryz.ntmps37
  go_wp2
  go_ret
  exact ⟨rfl, Fr.alloc (Fr.refl w) _⟩
theorem sgn_64 {n : Nat} (hn : n < 2 ^ 64) : IntKind.i64.wrap (n : Int) = sgnN 64 n := by
  have := sgn_up (bits := 64) (n := n) (by decide) (by decide) hn
  simpa using this
theorem wrap_sub (a b : Int) : IntKind.i64.wrap (a - IntKind.i64.wrap b) = IntKind.i64.wrap (a - b) := by
  simp only [IntKind.wrap, IntKind.bits, IntKind.signed]; simp; omega
set_option maxHeartbeats 3200000 in
theorem rvalue_sgn64 (nm : ByteArray) (kind file plus : Int) (A : Option Addr) (l k : Nat) (n : Nat) (h1 : kind ≠ 1) (h2 : kind ≠ 2) (hn : n < 2 ^ 64) (w : World) :
    Calls Tryz.prog 37 #[.agg #[.string nm, .int .i64 kind, .int .i64 file, .int .i64 64, .int .i64 0, .int .i64 plus, .slice A l k], .int .u64 (n : Int)] w fun e w' => e = .returned (.int .i64 (sgnN 64 n)) ∧ Fr w w' := by
  have hw := sgn_64 hn
  have hs0 := sgn_bd (bits := 64) (by decide) hn
  have hw3 : IntKind.i64.wrap (sgnN 64 n) = sgnN 64 n := wrap_in (by have := hs0.1; simp at this; omega) (by have := hs0.2; simp at this; omega)
  have k1 : (kind == 1) = false := by simp [h1]
  have k2 : (kind == 2) = false := by simp [h2]
  have k3 : (kind != 2) = true := by simp [h2]
  clear hs0 hn
  generalize sgnN 64 n = s at *
  go_enter Tryz.func37, Tryz.ntmps37
  go_wp2
  go_ret
  exact ⟨by first | rfl | exact ret_int (by simpa using hw3), Fr.alloc (Fr.refl w) _⟩
set_option maxHeartbeats 6400000 in
theorem rvalue_sgn (nm : ByteArray) (kind file plus : Int) (b shift : Nat) (A : Option Addr) (l k : Nat) (n : Nat) (h1 : kind ≠ 1) (h2 : kind ≠ 2) (hb : b ≤ 62) (hs : b + 1 + shift ≤ 64) (hn : n < 2 ^ (b + 1)) (w : World) :
    Calls Tryz.prog 37 #[.agg #[.string nm, .int .i64 kind, .int .i64 file, .int .i64 ((b : Int) + 1), .int .i64 (shift : Int), .int .i64 plus, .slice A l k], .int .u64 (n : Int)] w fun e w' => e = .returned (.int .i64 (sgnN (b + 1) n * 2 ^ shift)) ∧ Fr w w' := by
  have hm := sgn_mul (bits := b + 1) (by omega) hn hs
  have hwm := wrap_in hm.1 hm.2
  have h63 : 2 ^ (b + 1) ≤ 2 ^ 63 := Nat.pow_le_pow_right (by decide) (by omega)
  have hwn := conv_n (n := n) (by omega)
  have h2b : 2 ^ (b + 1) = 2 * 2 ^ b := by rw [Nat.pow_succ]; omega
  have hbp := Nat.two_pow_pos b
  have hsl : shift ≤ 63 := by omega
  obtain ⟨t, ht⟩ : ∃ t, n / 2 ^ b = t := ⟨_, rfl⟩
  have ht2 : t < 2 := by rw [← ht, Nat.div_lt_iff_lt_mul hbp]; omega
  have hq1 : (n : Int) / 2 ^ b = (t : Int) := by rw [← ht]; simp
  have hdm := Nat.div_add_mod n (2 ^ b)
  have hml := Nat.mod_lt n hbp
  rw [ht] at hdm
  have hst : sgnN (b + 1) n = if t = 1 then (n : Int) - 2 ^ (b + 1) else (n : Int) := by
    unfold sgnN
    rw [show b + 1 - 1 = b by omega]
    by_cases h : t = 1
    · rw [if_pos h, if_neg (by rw [h] at hdm; omega)]
    · have h0 : t = 0 := by omega
      rw [if_neg h, if_pos (by rw [h0] at hdm; omega)]
  have hs0 := sgn_bd (bits := b + 1) (by omega) hn
  rw [show b + 1 - 1 = b by omega] at hs0
  have hb62 : (2 : Int) ^ b ≤ 4611686018427387904 := by
    have hx : 2 ^ b ≤ 2 ^ 62 := Nat.pow_le_pow_right (by decide) hb
    have h3 : ((2 ^ b : Nat) : Int) = (2 : Int) ^ b := by simp
    omega
  have hw3 : IntKind.i64.wrap (sgnN (b + 1) n) = sgnN (b + 1) n := wrap_in (by omega) (by omega)
  have k1 : (kind == 1) = false := by simp [h1]
  have k2 : (kind == 2) = false := by simp [h2]
  have k3 : (kind != 2) = true := by simp [h2]
  have hbl : (b : Int) ≤ 62 := by omega
  clear hm hdm hml ht hn h63 h2b hbp hs0 hb62
  rcases (show t = 0 ∨ t = 1 by omega) with rfl | rfl
  · rw [if_neg (by decide)] at hst
    rw [hst] at hwm ⊢
    clear hw3 hst hs ht2
    go_enter Tryz.func37, Tryz.ntmps37
    go_wp2
    go_ret
    exact ⟨rfl, Fr.alloc (Fr.refl w) _⟩
  · rw [if_pos rfl] at hst
    obtain ⟨P, hP⟩ : ∃ P, IntKind.i64.wrap ((2 : Int) ^ (b + 1)) = P := ⟨_, rfl⟩
    have hP1 : IntKind.i64.wrap (1 * (2 : Int) ^ (b + 1)) = P := by rw [Int.one_mul]; exact hP
    have hsub : IntKind.i64.wrap ((n : Int) - P) = sgnN (b + 1) n := by rw [← hP, wrap_sub, ← hst]; exact hw3
    have htn : ((b : Int) + 1).toNat = b + 1 := by omega
    clear hst hs ht2 hw3
    generalize sgnN (b + 1) n = s at *
    go_enter Tryz.func37, Tryz.ntmps37
    go_wp2
    go_ret
    exact ⟨rfl, Fr.alloc (Fr.refl w) _⟩
theorem rvalue_any {D : Ds} (c : Cl) (hc : clsB D c = true) (nm : ByteArray) (A : Option Addr) (l k : Nat) (n : Nat) (hn : n < 2 ^ c.bits.toNat) (w : World) :
    Calls Tryz.prog 37 #[.agg #[.string nm, .int .i64 c.kind, .int .i64 c.file, .int .i64 c.bits, .int .i64 c.shift, .int .i64 c.plus, .slice A l k], .int .u64 (n : Int)] w fun e w' => e = .returned (.int .i64 (valI c n)) ∧ Fr w w' := by
  obtain ⟨kind, file, bits, shift, plus, ex⟩ := c
  unfold clsB at hc
  simp only at hn
  by_cases h1 : kind = 1
  · subst h1
    simp only [if_true] at hc
    unfold regB at hc
    split at hc
    · cases hc
    · rename_i f hf
      simp only [Bool.and_eq_true, decide_eq_true_eq] at hc
      obtain ⟨⟨⟨⟨c1, c2⟩, c3⟩, c4⟩, c5⟩ := hc
      have hfb : f.1 ≤ 64 := by
        unfold fileD at hf
        split at hf
        · split at hf
          · split at hf
            · rename_i hb
              injection hf with hf; subst hf
              unfold fileB at hb; simp at hb; omega
            · cases hf
          · cases hf
        · cases hf
      have hp : (1 : Int) ≤ 2 ^ bits.toNat := by have := Int.pow_pos (m := bits.toNat) (show (0 : Int) < 2 by decide); omega
      have hn64 : n < 64 := Nat.lt_of_lt_of_le hn (by
        have : 2 ^ bits.toNat ≤ 2 ^ 6 := Nat.pow_le_pow_right (by decide) (by omega)
        omega)
      have e : valI ⟨1, file, bits, shift, plus, ex⟩ n = plus + (n : Int) := by unfold valI; rw [if_pos rfl]
      rw [e]
      exact rvalue_reg nm file bits shift plus A l k n c4 (by omega) hn64 w
  · rw [if_neg h1] at hc
    have key : ∀ most : Int, most ≤ 64 → numB ⟨kind, file, bits, shift, plus, ex⟩ most = true → ∃ b s : Nat, bits = (b : Int) ∧ shift = (s : Int) ∧ 1 ≤ b ∧ ((b + s : Nat) : Int) ≤ most := fun most hm h => by
      unfold numB at h
      simp only [Bool.and_eq_true, decide_eq_true_eq] at h
      exact ⟨bits.toNat, shift.toNat, by omega, by omega, by omega, by omega⟩
    by_cases h2 : kind = 2
    · subst h2
      rw [if_pos rfl] at hc
      obtain ⟨b, s, rfl, rfl, h3, h4⟩ := key 62 (by decide) hc
      have e : valI ⟨2, file, (b : Int), (s : Int), plus, ex⟩ n = (n : Int) * 2 ^ s := by unfold valI; rw [if_neg (by simp), if_pos rfl]; rfl
      rw [e]
      exact rvalue_uns nm file plus b s A l k n (by omega) hn w
    · rw [if_neg h2] at hc
      split at hc
      · obtain ⟨b, s, rfl, rfl, h3, h4⟩ := key 64 (by decide) hc
        have e : valI ⟨kind, file, (b : Int), (s : Int), plus, ex⟩ n = sgnN b n * 2 ^ s := by unfold valI; rw [if_neg h1, if_neg h2]; rfl
        rw [e]
        obtain ⟨b', rfl⟩ : ∃ b', b = b' + 1 := ⟨b - 1, by omega⟩
        by_cases h64 : b' = 63
        · subst h64
          obtain rfl : s = 0 := by omega
          rw [Int.pow_zero, Int.mul_one]
          exact rvalue_sgn64 nm kind file plus A l k n h1 h2 hn w
        · exact rvalue_sgn nm kind file plus b' s A l k n h1 h2 (by omega) (by omega) hn w
      · cases hc
end Go.Proofs.YtgldfokjnkmifaaGreatDoor
namespace Go.Proofs.YtgldfokjnkmifaaGreatDoor
open Go.RowKit
set_option linter.unusedSimpArgs false
set_option linter.unusedVariables false

/-- What there is in a list of bits. -/
def BtOk (D : Ds) (args : List Int) (x : Bt) : Prop := (x.arg = -1 ∧ x.num = 0 ∧ (x.lit = 48 ∨ x.lit = 49 ∨ x.lit = 120)) ∨ (x.lit = 0 ∧ ∃ k m : Nat, x.arg = (k : Int) ∧ x.num = (m : Int) ∧ k < args.length ∧ (m : Int) < bitsAt D args k ∧ m < 64)
theorem chr_ok {p : Pc} (hl : litB p.lit = true) {b : Nat} (hb : b < p.lit.size) : chrN p b = 48 ∨ chrN p b = 49 ∨ chrN p b = 120 := by
  have hil : p.lit.size - 1 - b < p.lit.size := by omega
  have hch : chrN p b = (p.lit[p.lit.size - 1 - b]).toNat := by unfold chrN; rw [dif_pos hil]
  have h1 := List.all_eq_true.1 hl (p.lit[p.lit.size - 1 - b]) (by
    have : p.lit[p.lit.size - 1 - b] = p.lit.data.toList[p.lit.size - 1 - b]'(by simpa using hil) := by simp [ByteArray.getElem_eq_getElem_data]
    rw [this]; exact List.getElem_mem _)
  rw [hch]
  unfold litC at h1
  simp only [Bool.or_eq_true, beq_iff_eq] at h1
  rcases h1 with (h1 | h1) | h1 <;> rw [h1] <;> decide
theorem wP_ok {D : Ds} {args : List Int} {p : Pc} (hall : args.all (clsAtB D) = true) (hn : pcN D args p ≠ 0) : ∀ c, c ≤ pcN D args p → ∀ x ∈ wP p c, BtOk D args x
  | 0, _, x, h => by cases h
  | c + 1, hc, x, h => by
    rcases List.mem_cons.1 (by simpa [wP] using h) with h | h
    · subst h
      by_cases ha : p.arg = -1
      · left
        have hl : litB p.lit = true ∧ pcN D args p = p.lit.size := by
          unfold pcN at hn ⊢; rw [if_pos ha] at hn ⊢
          split at hn
          · rename_i h1; rw [if_pos h1]; exact ⟨h1, rfl⟩
          · exact absurd rfl hn
        unfold wbit
        rw [if_pos ha]
        exact ⟨rfl, rfl, chr_ok hl.1 (by omega)⟩
      · right
        obtain ⟨k, lo, n, e1, e2, e3, e4, e5, e6, e7, e8, e9⟩ := pc_right hall ha hn
        unfold wbit
        rw [if_neg ha]
        exact ⟨rfl, k, lo + c, e1, by simp only; omega, e2, by omega, by omega⟩
    · exact wP_ok hall hn c (by omega) x h
theorem wL_ok {D : Ds} {args : List Int} {pcs : List Pc} (h : patN D args pcs ≠ 0) : ∀ x ∈ wL D args pcs, BtOk D args x := by
  obtain ⟨h1, _, h3, _⟩ := pat_sum h
  unfold opsB at h1
  rw [Bool.and_eq_true] at h1
  have key : ∀ l : List Pc, (∀ p ∈ l, pcN D args p ≠ 0) → ∀ x ∈ wL D args l, BtOk D args x := by
    intro l
    induction l with
    | nil => intro _ x hx; cases hx
    | cons p r ih =>
      intro hp x hx
      rw [wL, List.mem_append] at hx
      rcases hx with hx | hx
      · exact wP_ok h1.2 (hp p (by simp)) _ (Nat.le_refl _) x hx
      · exact ih (fun q hq => hp q (by simp [hq])) x hx
  exact key pcs h3

/-! The number that bytes' bits make at an operand's places. -/
def numF (β : Nat → Bool) (s : Nat × Nat) (p : Int) : Nat × Nat := (s.1 + 1, if β p.toNat then s.2 ||| 2 ^ s.1 else s.2)
def numA (β : Nat → Bool) (l : List Int) : Nat := (l.foldl (numF β) (0, 0)).2
theorem numF_bit (β : Nat → Bool) : ∀ (l : List Int) (k b m : Nat), (l.foldl (numF β) (k, b)).2.testBit m = (b.testBit m || (decide (k ≤ m) && (match l[m - k]? with | some p => β p.toNat | none => false)))
  | [], k, b, m => by simp
  | p :: r, k, b, m => by
    rw [List.foldl_cons, show numF β (k, b) p = (k + 1, if β p.toNat then b ||| 2 ^ k else b) from rfl, numF_bit β r (k + 1)]
    by_cases hm : k ≤ m
    · by_cases he : m = k
      · subst he
        have h2 : decide (m + 1 ≤ m) = false := by simp
        rw [h2]
        cases hb : β p.toNat <;> simp [hb]
      · have e : m - k = (m - (k + 1)) + 1 := by omega
        have h1 : decide (k ≤ m) = true := by simpa using hm
        have h2 : decide (k + 1 ≤ m) = true := by simp; omega
        rw [e, List.getElem?_cons_succ, h1, h2]
        cases hb : β p.toNat
        · simp
        · simp only [if_true, Nat.testBit_or, Nat.testBit_two_pow]
          rw [show decide (k = m) = false by simp; omega]
          simp
    · have h1 : decide (k ≤ m) = false := by simpa using hm
      have h2 : decide (k + 1 ≤ m) = false := by simp; omega
      rw [h1, h2]
      cases hb : β p.toNat
      · simp
      · simp only [if_true, Nat.testBit_or, Nat.testBit_two_pow]
        rw [show decide (k = m) = false by simp; omega]
        simp
theorem numA_bit (β : Nat → Bool) (l : List Int) (m : Nat) : (numA β l).testBit m = (match l[m]? with | some p => β p.toNat | none => false) := by
  unfold numA
  rw [numF_bit]; simp
theorem numF_lit {β : Nat → Bool} {M : Ly} (h : Fit β M) : ∀ (l : List Int), (∀ p ∈ l, 0 ≤ p ∧ p < 128) → ∀ (k b k' b' : Nat), l.foldl (litF M.z0 M.z1 M.u0 M.u1) (some (k, b)) = some (k', b') → l.foldl (numF β) (k, b) = (k', b')
  | [], _, k, b, k', b', he => by
    simp only [List.foldl_nil, Option.some.injEq] at he ⊢
    exact he
  | p :: r, hp, k, b, k', b', he => by
    rw [List.foldl_cons] at he ⊢
    have hp0 := hp p (by simp)
    have hlt : p.toNat < 128 := by omega
    unfold litF at he
    unfold numF
    simp only at he ⊢
    by_cases h1 : hasN M.u0 M.u1 p.toNat = true
    · rw [if_pos h1] at he
      rw [if_pos (h.u _ hlt h1)]
      exact numF_lit h r (fun q hq => hp q (by simp [hq])) _ _ _ _ he
    · rw [if_neg h1] at he
      by_cases h2 : hasN M.z0 M.z1 p.toNat = true
      · rw [if_pos h2] at he
        rw [h.z _ hlt h2]
        exact numF_lit h r (fun q hq => hp q (by simp [hq])) _ _ _ _ he
      · rw [if_neg h2] at he
        have : r.foldl (litF M.z0 M.z1 M.u0 M.u1) none = none := litF_none _ _ _ _ r
        have he : r.foldl (litF M.z0 M.z1 M.u0 M.u1) none = some (k', b') := he
        rw [this] at he; cases he
/-- Bytes' bits fit a layout: its literals, and no value that is excepted. -/
structure FitL (β : Nat → Bool) (L : Ly) : Prop where
  fit : Fit β L
  val : ∀ x ∈ L.ops, valI x.1 (numA β x.2) ∉ x.1.ex
theorem ex_no {D : Ds} {β : Nat → Bool} {L M : Ly} (hL : LyOk D L) (h : FitL β L) (k : Fit β M) : exB L M = false := by
  cases he : exB L M with
  | false => rfl
  | true =>
    unfold exB at he
    obtain ⟨x, hx, hv⟩ := List.any_eq_true.1 he
    unfold exO at hv
    split at hv
    · cases hv
    · rename_i n b hl
      have hnum := numF_lit k x.2 (hL.at_ x hx) 0 0 n b hl
      have : numA β x.2 = b := by unfold numA; rw [hnum]
      exact absurd (by rw [this]; simpa using hv) (h.val x hx)
theorem meet_no {β : Nat → Bool} {a b c d : Nat} (ha : a < 18446744073709551616) (hb : b < 18446744073709551616) (hz : ∀ p, p < 128 → hasN a b p = true → β p = false) (hu : ∀ p, p < 128 → hasN c d p = true → β p = true) : mtN a b c d = false := by
  have key : ∀ x y q : Nat, x < 18446744073709551616 → (∀ i, i < 64 → x.testBit i = true → y.testBit i = true → False) → x &&& y = 0 := fun x y q hx h => by
    apply Nat.eq_of_testBit_eq
    intro i
    rw [Nat.testBit_and, Nat.zero_testBit]
    cases h1 : x.testBit i with
    | false => rfl
    | true =>
      have hi : i < 64 := by
        rcases Nat.lt_or_ge i 64 with h2 | h2
        · exact h2
        · have := Nat.testBit_lt_two_pow (x := x) (i := i) (Nat.lt_of_lt_of_le hx (by
            have : 2 ^ 64 ≤ 2 ^ i := Nat.pow_le_pow_right (by decide) h2
            simpa using this))
          rw [this] at h1; cases h1
      cases h2 : y.testBit i with
      | false => rfl
      | true => exact (h i hi h1 h2).elim
  have e1 : a &&& c = 0 := key a c 0 ha fun i hi h1 h2 => by
    have x1 := hz i (by omega) (by unfold hasN; rw [if_pos hi, Nat.mod_eq_of_lt hi]; exact h1)
    have x2 := hu i (by omega) (by unfold hasN; rw [if_pos hi, Nat.mod_eq_of_lt hi]; exact h2)
    rw [x1] at x2; cases x2
  have e2 : b &&& d = 0 := key b d 0 hb fun i hi h1 h2 => by
    have hm : (64 + i) % 64 = i := by omega
    have x1 := hz (64 + i) (by omega) (by unfold hasN; rw [if_neg (by omega), hm]; exact h1)
    have x2 := hu (64 + i) (by omega) (by unfold hasN; rw [if_neg (by omega), hm]; exact h2)
    rw [x1] at x2; cases x2
  unfold mtN
  rw [e1, e2]; simp
/-- NO BYTES FIT TWO: of two layouts that are disjoint. -/
theorem apart_no {D : Ds} {β : Nat → Bool} {L M : Ly} (hL : LyOk D L) (hM : LyOk D M) (h : FitL β L) (k : FitL β M) : apB L M = false := by
  unfold apB
  rw [meet_no hL.z0 hL.z1 h.fit.z k.fit.u, ex_no hL h k.fit, ex_no hM k h.fit]
  have : mtN L.u0 L.u1 M.z0 M.z1 = mtN M.z0 M.z1 L.u0 L.u1 := by unfold mtN; rw [Nat.and_comm L.u0, Nat.and_comm L.u1]
  rw [this, meet_no hM.z0 hM.z1 k.fit.z h.fit.u]
  rfl
theorem putB_ok {D : Ds} {L : Ly} (h : LyOk D L) (x : Bt) {q : Nat} (hq : q < 128) : LyOk D (putB x q L) := by
  unfold putB
  split
  · split
    · exact addZ_ok h q
    · split
      · exact addU_ok h q
      · exact h
  · exact putO_ok h _ _ hq
theorem layB_ok {D : Ds} {o : Int} {bits : Nat} (hb : bits ≤ 120) (h8 : bits % 8 = 0) : ∀ (l : List Bt) (wr : Nat) (L : Ly), wr + l.length = bits → LyOk D L → LyOk D (layB o bits l wr L)
  | [], _, L, _, h => h
  | x :: r, wr, L, hl, h => layB_ok hb h8 r (wr + 1) _ (by simp at hl; omega) (putB_ok h x (Nat.lt_trans (plcN_lt (by simp at hl; omega) hb h8) (by decide)))
theorem layD_ok {D : Ds} {args : List Int} {pcs : List Pc} (h : patN D args pcs ≠ 0) : LyOk D (layD D args pcs) := by
  obtain ⟨e, el⟩ := layD_B h
  obtain ⟨h1, _, _, h8, hb⟩ := pat_sum h
  unfold opsB at h1
  rw [Bool.and_eq_true] at h1
  rw [e]
  exact layB_ok hb h8 _ 0 _ (by omega) (lay0_ok (of_decide_eq_true h1.1) h1.2)
end Go.Proofs.YtgldfokjnkmifaaGreatDoor
namespace Go.Proofs.YtgldfokjnkmifaaGreatDoor
open Go.RowKit
set_option linter.unusedSimpArgs false
set_option linter.unusedVariables false

theorem drewN_below (B : Nat) (w : World) (n : Nat) : Below B w (w.drewN n) := ⟨rfl, rfl, rfl, Nat.le_refl _, fun _ _ => rfl⟩
theorem layAt_lb {lb base oc : Nat} {wr : World} {O : Option Addr} {os : List Od} {L : Ly} (h : LayAt lb base wr O oc os L) : lb < wr.heap.size := lt_of_cell (h.blk 0 _ rfl)
theorem put_any {D : Ds} {args : List Int} {lb base oc : Nat} {w0 wr : World} {O : Option Addr} {os : List Od} {L : Ly} {p : Pc} {b q : Nat} (h : LayAt lb base wr O oc os L) (hok : LyOk D L) (hX : ∀ i o, os[i]? = some o → OdX D args w0 i o) (hos : os.length = args.length)
    (hall : args.all (clsAtB D) = true) (hb : b < pcN D args p) (hq : q < 128) (hls : p.lit.size ≤ maxLen) :
    Calls Tryz.prog 159 #[.pointer (some ⟨lb, 0, none⟩), .agg #[.string p.lit, .int .i64 p.arg, .int .i64 p.hi, .int .i64 p.lo], .int .i64 (b : Int), .int .i64 (q : Int)] wr fun e w' =>
      e = .returned (.tuple #[]) ∧ Below lb wr w' ∧ LayAt lb base w' O oc os (putL p b q L) ∧ ∀ b', b' < wr.heap.size → b' ≠ lb → (∀ o ∈ os, o.g ≠ b') → w'.heap[b']? = wr.heap[b']? := by
  have hlb := layAt_lb h
  have hlt := h.lb_
  have hn : pcN D args p ≠ 0 := by omega
  by_cases ha : p.arg = -1
  · have hpl : putL p b q L = if chrN p b = 48 then addZ L q else if chrN p b = 49 then addU L q else L := by unfold putL; rw [if_pos ha]
    rw [hpl]
    have hl : litB p.lit = true ∧ pcN D args p = p.lit.size := by
      unfold pcN at hn ⊢; rw [if_pos ha] at hn ⊢
      split at hn
      · rename_i h1; rw [if_pos h1]; exact ⟨h1, rfl⟩
      · exact absurd rfl hn
    have hbs : b < p.lit.size := by omega
    have hib : (p.lit.size - 1 - b) + b + 1 = p.lit.size := by omega
    have hil : p.lit.size - 1 - b < p.lit.size := by omega
    have hch : chrN p b = (p.lit[p.lit.size - 1 - b]).toNat := by unfold chrN; rw [dif_pos hil]
    have hcc : chrN p b = 48 ∨ chrN p b = 49 ∨ chrN p b = 120 := by
      have h1 := List.all_eq_true.1 hl.1 (p.lit[p.lit.size - 1 - b]) (by
        have : p.lit[p.lit.size - 1 - b] = p.lit.data.toList[p.lit.size - 1 - b]'(by simpa using hil) := by simp [ByteArray.getElem_eq_getElem_data]
        rw [this]; exact List.getElem_mem _)
      rw [hch]
      unfold litC at h1
      simp only [Bool.or_eq_true, beq_iff_eq] at h1
      rcases h1 with (h1 | h1) | h1 <;> rw [h1] <;> decide
    have ea : (Value.int .i64 p.arg) = .int .i64 (-1) := by rw [ha]
    rw [ea]
    have c0 := h.blk 0 _ rfl; have c1 := h.blk 1 _ rfl; have c2 := h.blk 2 _ rfl; have c3 := h.blk 3 _ rfl
    rcases hcc with hc | hc | hc
    · rw [if_pos hc]
      refine (put_zero lb L.z0 L.z1 b _ q hok.z0 hok.z1 p.lit p.hi p.lo hib hls hil (by rw [← hch]; exact hc) hq c0 c1 (h.free 0) (h.free 1)).mono ?_
      rintro e w' ⟨rfl, n, rfl⟩
      have k : Fr wr ((wr.alloc (.cells #[.string p.lit, .int .i64 (-1), .int .i64 p.hi, .int .i64 p.lo] 210)).drewN n) := Fr.drewN (Fr.alloc (Fr.refl _) _) n
      have kb : Below lb wr _ := Below.mono (B := wr.heap.size) k (by omega)
      exact ⟨rfl, Below.setCell kb (Nat.le_refl lb) _, (h.fr k).zero hq, fun b' h1 h2 _ => (Below.heap_setCell _ _ _ b' h2).trans (k.block b' h1)⟩
    · rw [if_neg (by omega), if_pos hc]
      refine (put_one lb L.u0 L.u1 b _ q hok.u0 hok.u1 p.lit p.hi p.lo hib hls hil (by rw [← hch]; exact hc) hq c2 c3 (h.free 2) (h.free 3)).mono ?_
      rintro e w' ⟨rfl, n, rfl⟩
      have k : Fr wr ((wr.alloc (.cells #[.string p.lit, .int .i64 (-1), .int .i64 p.hi, .int .i64 p.lo] 210)).drewN n) := Fr.drewN (Fr.alloc (Fr.refl _) _) n
      have kb : Below lb wr _ := Below.mono (B := wr.heap.size) k (by omega)
      exact ⟨rfl, Below.setCell kb (Nat.le_refl lb) _, (h.fr k).one hq, fun b' h1 h2 _ => (Below.heap_setCell _ _ _ b' h2).trans (k.block b' h1)⟩
    · rw [if_neg (by omega), if_neg (by omega)]
      refine (put_x lb b _ (q : Int) p.lit p.hi p.lo hib hls hil (by rw [← hch]; exact hc)).mono ?_
      rintro e w' ⟨rfl, k⟩
      exact ⟨rfl, Below.mono k (by omega), h.fr k, fun b' h1 _ _ => k.block b' h1⟩
  · obtain ⟨k, lo, n, e1, e2, e3, e4, e5, e6, e7, e8, e9⟩ := pc_right hall ha hn
    have hpl : putL p b q L = putO L k (lo + b) q := by unfold putL; rw [if_neg ha, e1, e3]; simp
    rw [hpl]
    have hk : k < os.length := by omega
    have ho := List.getElem?_eq_getElem hk
    generalize os[k] = o at ho
    obtain ⟨ob, rfl, _, _, hc⟩ := h.row k o ho
    obtain ⟨l, el, hl, hcl, hfr⟩ := h.ops k o ho
    obtain ⟨⟨c, x1, x2, x3, x4, x5⟩, _, _⟩ := hX k o ho
    have hba : bitsAt D args k = o.x.bits := by unfold bitsAt; rw [x1]; dsimp only; rw [Int.toNat_natCast, x2]
    have hlen : lo + b < l.length := by rw [hba] at e7; omega
    have c7 := hc 7 _ rfl
    have c4 := h.blk 4 _ rfl
    have cg := hcl (lo + b) _ (List.getElem?_eq_getElem hlen)
    rw [show (Value.int .i64 p.arg) = .int .i64 (k : Int) by rw [e1], show (Value.int .i64 p.lo) = .int .i64 (lo : Int) by rw [e3]]
    refine (put_arg lb ob 0 k os.length oc o.g o.x.bits.toNat o.x.bits.toNat lo b p.lit p.hi (q : Int) _ hk (by omega) (by omega) c4 (by rw [Nat.zero_add]; exact c7) cg (hfr _)).mono ?_
    rintro e w' ⟨rfl, m, rfl⟩
    have kk : Fr wr ((wr.alloc (.cells #[.string p.lit, .int .i64 (k : Int), .int .i64 p.hi, .int .i64 (lo : Int)] 210)).drewN m) := Fr.drewN (Fr.alloc (Fr.refl _) _) m
    have hg := (h.old o (List.mem_of_getElem? ho)).1
    exact ⟨rfl, Below.setCell (Below.mono (B := wr.heap.size) kk (by omega)) (by simp only; omega) _, (h.fr kk).arg ho, fun b' h1 _ h3 => (Below.heap_setCell _ _ _ b' (fun e => h3 o (List.mem_of_getElem? ho) e.symm)).trans (kk.block b' h1)⟩

theorem blkAt_below {lb b : Nat} {w w' : World} {l : List Value} (h : BlkAt w b l) (k : Below lb w w') (hb : b < lb) : BlkAt w' b l := fun i v hv => (k.cell (p := ⟨b, i, none⟩) hb).trans (h i v hv)
theorem Fr.below {a b c : World} {lb : Nat} (h : Fr a b) (k : Below lb b c) (hl : a.heap.size ≤ lb) : Fr a c := Below.trans h (Below.mono k hl)
/-- What lay has in memory: W3 is the world with lay's arguments and its result's cell. -/
structure LayR (D : Ds) (W3 : World) (n : Nat) (os : List Od) (O : Option Addr) (oc : Nat) (L : Ly) (wr : World) : Prop where
  fr : Fr W3 wr
  lay : LayAt (n + 3) (n + 4) wr O oc os L
  ok : LyOk D L
theorem LayR.to {D : Ds} {W3 : World} {n : Nat} {os : List Od} {O : Option Addr} {oc : Nat} {L L' : Ly} {wr w' : World} (h : LayR D W3 n os O oc L wr) (hz : W3.heap.size = n + 3) (k : Below (n + 3) wr w') (hl : LayAt (n + 3) (n + 4) w' O oc os L') (ho : LyOk D L') : LayR D W3 n os O oc L' w' :=
  ⟨h.fr.below k (by omega), hl, ho⟩
theorem LayR.frame {D : Ds} {W3 : World} {n : Nat} {os : List Od} {O : Option Addr} {oc : Nat} {L : Ly} {wr w' : World} (h : LayR D W3 n os O oc L wr) (k : Fr wr w') : LayR D W3 n os O oc L w' :=
  ⟨h.fr.call k, h.lay.fr k, h.ok⟩
def RelLay1 (D : Ds) (args : List Int) (w0 W3 : World) (n : Nat) (i : Value) (wr : World) : Prop := ∃ (os : List Od) (O : Option Addr) (oc : Nat), os.length ≤ args.length ∧ i = .int .i64 (os.length : Int) ∧ Fr W3 wr ∧
  OpsAt (n + 3) (n + 4) wr O oc os ∧ n + 4 ≤ wr.heap.size ∧ ∀ i o, os[i]? = some o → OdX D args w0 i o
def RelLay2 (D : Ds) (args : List Int) (pcs : List Pc) (bits : Nat) (T : Ly) (W3 : World) (n : Nat) (os : List Od) (O : Option Addr) (oc : Nat) (i nv : Value) (wr : World) : Prop := ∃ (j m : Nat) (L : Ly), j ≤ pcs.length ∧ i = .int .i64 (j : Int) ∧ nv = .int .i64 (m : Int) ∧
  LayR D W3 n os O oc L wr ∧ layL D.order bits D args (pcs.drop j) m L = T ∧ m + sumN D args (pcs.drop j) = bits
def RelLay3 (D : Ds) (args : List Int) (pcs : List Pc) (bits : Nat) (T : Ly) (W3 : World) (n : Nat) (os : List Od) (O : Option Addr) (oc : Nat) (j N : Nat) (p : Pc) (pb : Nat) (pv : List Value) (bv nv : Value) (wr : World) : Prop := ∃ (c m : Nat) (L : Ly), bv = .int .i64 ((c : Int) - 1) ∧ nv = .int .i64 (m : Int) ∧ c ≤ N ∧
  LayR D W3 n os O oc L wr ∧ layL D.order bits D args (pcs.drop (j + 1)) (m + c) (layP D.order bits p c m L) = T ∧ m + c + sumN D args (pcs.drop (j + 1)) = bits ∧ BlkAt wr pb pv
theorem lay0_start {D : Ds} {args : List Int} {w0 : World} {os : List Od} (hX : ∀ i o, os[i]? = some o → OdX D args w0 i o) (hl : os.length = args.length) : (lay0 D args).ops.length = os.length ∧ ∀ (i : Nat) (o : Od), os[i]? = some o → (lay0 D args).ops[i]? = some (o.x, List.replicate o.x.bits.toNat 0) := by
  refine ⟨by simp [lay0, hl], fun i o ho => ?_⟩
  obtain ⟨⟨c, h1, h2, _⟩, _, _⟩ := hX i o ho
  simp [lay0, h1, op0, h2]
end Go.Proofs.YtgldfokjnkmifaaGreatDoor
