/- The first thing that isn't right in a description: Check. What a form's layout of package codec says of the places: plain. -/
import Derived.Test.YtdipnhghdajplaaGreatDoorP35
import Derived.Test.YtdipnhghdajplaaGreatDoorP28b
import Derived.Test.YtdipnhghdajplaaGreatDoorP39
import Derived.Test.YtdipnhghdajplaaGreatDoorP36
namespace Go.Proofs.YtdipnhghdajplaaGreatDoor
open Go.RowKit
set_option linter.unusedSimpArgs false
set_option linter.unusedVariables false

/-- The first form of which the pattern or the effects aren't right. -/
def badL (D : Ds) : List Fm → Nat → Option (Nat × Int)
  | [], _ => none
  | f :: r, n => if patN D f.args f.pcs / 8 = 0 then some (n, 52) else if effL (D.env f.args) f.sem = false then some (n, 53) else badL D r (n + 1)
/-- The first thing that isn't right. -/
def chkN (D : Ds) : Int × Int := if partsB D = false then (-1, 51) else match badL D D.fms 0 with
  | some (n, e) => ((n : Int), e)
  | none => match clashN D with
    | some n => ((n : Int), 54)
    | none => if linksB D = true then (0, 0) else (-1, 51)
def chkV (D : Ds) : Value := .tuple #[.int .i64 (chkN D).1, .int .i64 (chkN D).2]
theorem badL_none {D : Ds} : ∀ (l : List Fm) (n : Nat), badL D l n = none → ∀ f ∈ l, patN D f.args f.pcs / 8 ≠ 0 ∧ effL (D.env f.args) f.sem = true
  | [], _, _, f, hf => by cases hf
  | g :: r, n, h, f, hf => by
    unfold badL at h
    split at h
    · cases h
    · rename_i h1
      split at h
      · cases h
      · rename_i h2
        rcases List.mem_cons.1 hf with rfl | hf
        · exact ⟨h1, by simpa using h2⟩
        · exact badL_none r (n + 1) h f hf
theorem clV_cases (D : Ds) : (clashN D = none ∧ clV D = .tuple #[.int .i64 0, .bool false]) ∨ (∃ n, clashN D = some n ∧ clV D = .tuple #[.int .i64 (n : Int), .bool true]) := by
  unfold clV
  cases clashN D with
  | none => exact .inl ⟨rfl, rfl⟩
  | some n => exact .inr ⟨n, rfl, rfl⟩
theorem parts_512 {D : Ds} (h : partsB D = true) : D.fms.length ≤ 512 := by
  unfold partsB at h
  simp only [Bool.and_eq_true, decide_eq_true_eq] at h
  omega
def RelCk (D : Ds) (W1 : World) (i : Value) (wr : World) : Prop := ∃ j : Nat, j ≤ D.fms.length ∧ i = .int .i64 (j : Int) ∧ Fr W1 wr ∧ badL D D.fms 0 = badL D (D.fms.drop j) j
set_option maxHeartbeats 25600000 in
set_option maxRecDepth 100000 in
theorem check_any {w : World} {D : Ds} {v : Array Value} (hD : DescAt w D v) (hS : D.Small) (hL : D.Light) :
    Calls Tryz.prog 8 #[.agg v] w fun e w' => e = .returned (chkV D) ∧ Fr w w' := by
  have HD := Lib.hid hD
  have HPA := Lib.hid (fun (w1 : World) (k : Fr w w1) => partsRight_any (hD.fr k) hS)
  have HLK := Lib.hid (fun (w1 : World) (k : Fr w w1) => linksRight_any (hD.fr k) hS)
  have HSZ := Lib.hid (fun (w1 : World) (k : Fr w w1) (n : Nat) (hn : n < D.fms.length) => size_any (hD.fr k) hL n hn)
  have HEF := Lib.hid (fun (w1 : World) (k : Fr w w1) (n : Nat) (hn : n < D.fms.length) => effectsRight_any (hD.fr k) n hn)
  have HFC := Lib.hid (fun (w1 : World) (k : Fr w w1) => firstClash_any (hD.fr k) hL)
  obtain ⟨s0, Fa, Ba, Ga, Ca, Ma, Ra, Ua, Xa, Ka, Na, Pa, fc, bc, gc, cc, mc, rc, uc, xc, kc, nl, nc, pc, rfl, h1, h2, h3, h4, h5, h6, h7, h8, h9⟩ := hD
  have HDV := Lib.hid (show BlkAt (w.alloc (.cells #[.string s0, .int .i64 D.order, .slice Fa D.files.length fc, .slice Ba D.als.length bc, .slice Ga D.nflags gc, .slice Ca D.cls.length cc, .slice Ma D.fms.length mc, .slice Ra D.rels.length rc, .slice Ua D.uses.length uc, .slice Xa D.rxs.length xc, .slice Ka D.mcs.length kc, .slice Na nl nc, .slice Pa D.regs.length pc] 33)) w.heap.size [.string s0, .int .i64 D.order, .slice Fa D.files.length fc, .slice Ba D.als.length bc, .slice Ga D.nflags gc, .slice Ca D.cls.length cc, .slice Ma D.fms.length mc, .slice Ra D.rels.length rc, .slice Ua D.uses.length uc, .slice Xa D.rxs.length xc, .slice Ka D.mcs.length kc, .slice Na nl nc, .slice Pa D.regs.length pc] from BlkAt.alloc)
  have HF1 := Lib.hid (show Fr w (w.alloc (.cells #[.string s0, .int .i64 D.order, .slice Fa D.files.length fc, .slice Ba D.als.length bc, .slice Ga D.nflags gc, .slice Ca D.cls.length cc, .slice Ma D.fms.length mc, .slice Ra D.rels.length rc, .slice Ua D.uses.length uc, .slice Xa D.rxs.length xc, .slice Ka D.mcs.length kc, .slice Na nl nc, .slice Pa D.regs.length pc] 33)) from Fr.alloc (Fr.refl w) _)
  obtain ⟨cv, hcv⟩ : ∃ cv, chkV D = cv := ⟨_, rfl⟩
  rw [hcv]
  have HCV := Lib.hid hcv
  have hfl : D.fms.length ≤ maxLen := hS.2.2.2.2.1
  have hml : D.fms.length ≤ 9223372036854775807 := Nat.le_trans hfl (by decide)
  clear hcv h1 h2 h3 h4 h5 h6 h7 h8 h9 hS hL hfl
  go_enter Tryz.func8, Tryz.ntmps8
  go_wp2_with fail
  generalize World.alloc w _ = W1 at *
  refine (HPA.out _ HF1.out).mono ?_
  rintro e w4 ⟨rfl, hf4⟩
  have HF4 := Lib.hid hf4
  clear hf4
  obtain ⟨pb, hpb⟩ : ∃ pb, partsB D = pb := ⟨_, rfl⟩
  have HPB := Lib.hid hpb
  rw [hpb]
  clear hpb
  cases pb with
  | false =>
    have HV := Lib.hid (show cv = .tuple #[.int .i64 (-1), .int .i64 51] by rw [← HCV.out]; unfold chkV chkN; rw [if_pos HPB.out])
    go_wp2
    go_ret2
    exact ⟨by rw [HV.out]; rfl, HF1.out.call HF4.out⟩
  | true =>
    have d6 := HDV.out.fr HF4.out 6 _ rfl
    have zd := lt_of_cell d6
    go_wp2_with fail
    clear d6 zd
    go_loopw [13] (fun i wr => RelCk D W1 i wr) (fun i _ => D.fms.length - (intOf i).toNat)
    case atStart => exact ⟨0, Nat.zero_le _, rfl, HF4.out, by rw [List.drop_zero]⟩
    case round =>
      obtain ⟨j, hj, rfl, hf, hb⟩ := hrel
      have HF := Lib.hid hf
      have HB := Lib.hid hb
      by_cases hlt : j < D.fms.length
      · have HDR := Lib.hid (List.drop_eq_getElem_cons hlt)
        have hji : (j : Int) < (D.fms.length : Int) := by omega
        have HSZ1 := Lib.hid (fun (w1 : World) (k : Fr w w1) => HSZ.out w1 k j hlt)
        have HEF1 := Lib.hid (fun (w1 : World) (k : Fr w w1) => HEF.out w1 k j hlt)
        rw [HDR.out] at hb
        have HB1 := Lib.hid (show badL D D.fms 0 = (if patN D D.fms[j].args D.fms[j].pcs / 8 = 0 then some (j, 52) else if effL (D.env D.fms[j].args) D.fms[j].sem = false then some (j, 53) else badL D (D.fms.drop (j + 1)) (j + 1)) from hb)
        generalize patN D (D.fms[j]).args (D.fms[j]).pcs / 8 = sz at *
        generalize effL (D.env (D.fms[j]).args) (D.fms[j]).sem = ef at *
        have d0 := (HDV.out.fr HF.out) 0 _ rfl; have d1 := (HDV.out.fr HF.out) 1 _ rfl; have d2 := (HDV.out.fr HF.out) 2 _ rfl; have d3 := (HDV.out.fr HF.out) 3 _ rfl; have d4 := (HDV.out.fr HF.out) 4 _ rfl; have d5 := (HDV.out.fr HF.out) 5 _ rfl; have d6 := (HDV.out.fr HF.out) 6 _ rfl; have d7 := (HDV.out.fr HF.out) 7 _ rfl; have d8 := (HDV.out.fr HF.out) 8 _ rfl; have d9 := (HDV.out.fr HF.out) 9 _ rfl; have d10 := (HDV.out.fr HF.out) 10 _ rfl; have d11 := (HDV.out.fr HF.out) 11 _ rfl; have d12 := (HDV.out.fr HF.out) 12 _ rfl; have zd := lt_of_cell d0
        clear hf hb
        go_wp2_with fail
        refine (HSZ1.out _ (HF1.out.call HF.out)).mono ?_
        rintro e w5 ⟨rfl, hf5⟩
        have HF5 := Lib.hid (HF.out.call hf5)
        clear hf5 d0 d1 d2 d3 d4 d5 d6 d7 d8 d9 d10 d11 d12 zd
        by_cases hsz : sz = 0
        · have HV := Lib.hid (show cv = .tuple #[.int .i64 (j : Int), .int .i64 52] by
            rw [← HCV.out]; unfold chkV chkN; rw [if_neg (by rw [HPB.out]; decide), HB1.out, if_pos hsz])
          subst hsz
          go_wp2
          go_ret2
          exact ⟨by rw [HV.out]; rfl, HF1.out.call HF5.out⟩
        · have hsi : ((sz : Int) == 0) = false := by rw [beq_eq_false_iff_ne]; omega
          have hsz2 : ¬ (sz : Int) = 0 := by omega
          rw [if_neg hsz] at HB1
          have d0 := (HDV.out.fr HF5.out) 0 _ rfl; have d1 := (HDV.out.fr HF5.out) 1 _ rfl; have d2 := (HDV.out.fr HF5.out) 2 _ rfl; have d3 := (HDV.out.fr HF5.out) 3 _ rfl; have d4 := (HDV.out.fr HF5.out) 4 _ rfl; have d5 := (HDV.out.fr HF5.out) 5 _ rfl; have d6 := (HDV.out.fr HF5.out) 6 _ rfl; have d7 := (HDV.out.fr HF5.out) 7 _ rfl; have d8 := (HDV.out.fr HF5.out) 8 _ rfl; have d9 := (HDV.out.fr HF5.out) 9 _ rfl; have d10 := (HDV.out.fr HF5.out) 10 _ rfl; have d11 := (HDV.out.fr HF5.out) 11 _ rfl; have d12 := (HDV.out.fr HF5.out) 12 _ rfl; have zd := lt_of_cell d0
          go_wp2_with fail
          refine (HEF1.out _ (HF1.out.call HF5.out)).mono ?_
          rintro e w6 ⟨rfl, hf6⟩
          have HF6 := Lib.hid (HF5.out.call hf6)
          clear hf6 d0 d1 d2 d3 d4 d5 d6 d7 d8 d9 d10 d11 d12 zd
          cases ef with
          | false =>
            have HV := Lib.hid (show cv = .tuple #[.int .i64 (j : Int), .int .i64 53] by
              rw [← HCV.out]; unfold chkV chkN; rw [if_neg (by rw [HPB.out]; decide), HB1.out, if_pos rfl])
            go_wp2
            go_ret2
            exact ⟨by rw [HV.out]; rfl, HF1.out.call HF6.out⟩
          | true =>
            have HB2 := Lib.hid (HB1.out.trans (if_neg (by decide)))
            go_wp2
            go_roundw
            case rel => exact ⟨j + 1, by omega, by go_num, HF6.out, HB2.out⟩
            case measure => simp [intOf]; omega
      · obtain rfl : j = D.fms.length := by omega
        rw [List.drop_length] at hb
        have HBN := Lib.hid (show badL D D.fms 0 = none from hb)
        have HAL := Lib.hid (badL_none D.fms 0 hb)
        have HPT := Lib.hid (show ∀ f ∈ D.fms, patN D f.args f.pcs ≠ 0 from fun f hf h0 => (HAL.out f hf).1 (by rw [h0]))
        have h512 : D.fms.length ≤ 512 := parts_512 HPB.out
        have d0 := (HDV.out.fr HF.out) 0 _ rfl; have d1 := (HDV.out.fr HF.out) 1 _ rfl; have d2 := (HDV.out.fr HF.out) 2 _ rfl; have d3 := (HDV.out.fr HF.out) 3 _ rfl; have d4 := (HDV.out.fr HF.out) 4 _ rfl; have d5 := (HDV.out.fr HF.out) 5 _ rfl; have d6 := (HDV.out.fr HF.out) 6 _ rfl; have d7 := (HDV.out.fr HF.out) 7 _ rfl; have d8 := (HDV.out.fr HF.out) 8 _ rfl; have d9 := (HDV.out.fr HF.out) 9 _ rfl; have d10 := (HDV.out.fr HF.out) 10 _ rfl; have d11 := (HDV.out.fr HF.out) 11 _ rfl; have d12 := (HDV.out.fr HF.out) 12 _ rfl; have zd := lt_of_cell d0
        clear hf hb
        go_wp2_with fail
        refine (HFC.out _ (HF1.out.call HF.out) HPT.out h512).mono ?_
        rintro e w5 ⟨rfl, hf5⟩
        have HF5 := Lib.hid (HF.out.call hf5)
        clear hf5 d0 d1 d2 d3 d4 d5 d6 d7 d8 d9 d10 d11 d12 zd
        rcases clV_cases D with ⟨hc, hv⟩ | ⟨n, hc, hv⟩
        · rw [hv]
          have HC := Lib.hid hc
          clear hv hc
          have d0 := (HDV.out.fr HF5.out) 0 _ rfl; have d1 := (HDV.out.fr HF5.out) 1 _ rfl; have d2 := (HDV.out.fr HF5.out) 2 _ rfl; have d3 := (HDV.out.fr HF5.out) 3 _ rfl; have d4 := (HDV.out.fr HF5.out) 4 _ rfl; have d5 := (HDV.out.fr HF5.out) 5 _ rfl; have d6 := (HDV.out.fr HF5.out) 6 _ rfl; have d7 := (HDV.out.fr HF5.out) 7 _ rfl; have d8 := (HDV.out.fr HF5.out) 8 _ rfl; have d9 := (HDV.out.fr HF5.out) 9 _ rfl; have d10 := (HDV.out.fr HF5.out) 10 _ rfl; have d11 := (HDV.out.fr HF5.out) 11 _ rfl; have d12 := (HDV.out.fr HF5.out) 12 _ rfl; have zd := lt_of_cell d0
          go_wp2_with fail
          refine (HLK.out _ (HF1.out.call HF5.out)).mono ?_
          rintro e w6 ⟨rfl, hf6⟩
          have HF6 := Lib.hid (HF5.out.call hf6)
          clear hf6 d0 d1 d2 d3 d4 d5 d6 d7 d8 d9 d10 d11 d12 zd
          obtain ⟨lb, hlb⟩ : ∃ lb, linksB D = lb := ⟨_, rfl⟩
          have HLB := Lib.hid hlb
          rw [hlb]
          clear hlb
          cases lb with
          | false =>
            have HV := Lib.hid (show cv = .tuple #[.int .i64 (-1), .int .i64 51] by
              rw [← HCV.out]; unfold chkV chkN; rw [if_neg (by rw [HPB.out]; decide), HBN.out, HC.out]; dsimp only; rw [if_neg (by rw [HLB.out]; decide)])
            go_wp2
            go_ret2
            exact ⟨by rw [HV.out]; rfl, HF1.out.call HF6.out⟩
          | true =>
            have HV := Lib.hid (show cv = .tuple #[.int .i64 0, .int .i64 0] by
              rw [← HCV.out]; unfold chkV chkN; rw [if_neg (by rw [HPB.out]; decide), HBN.out, HC.out]; dsimp only; rw [if_pos HLB.out])
            go_wp2
            go_ret2
            exact ⟨by rw [HV.out]; rfl, HF1.out.call HF6.out⟩
        · rw [hv]
          have HV := Lib.hid (show cv = .tuple #[.int .i64 (n : Int), .int .i64 54] by
            rw [← HCV.out]; unfold chkV chkN; rw [if_neg (by rw [HPB.out]; decide), HBN.out, hc])
          clear hv hc
          go_wp2
          go_ret2
          exact ⟨by rw [HV.out]; rfl, HF1.out.call HF5.out⟩
end Go.Proofs.YtdipnhghdajplaaGreatDoor
namespace Go.Proofs.YtdipnhghdajplaaGreatDoor
open Go.RowKit
set_option linter.unusedSimpArgs false
set_option linter.unusedVariables false

theorem plc_inj {o : Int} {s s' n : Nat} (h : s < n) (h' : s' < n) (e : plcN o s n = plcN o s' n) : s = s' := by
  unfold plcN at e; split at e <;> omega
theorem plc_lt {o : Int} {s n : Nat} (h : s < n) (h8 : n % 8 = 0) : plcN o s n < n := by
  unfold plcN; split <;> omega
theorem plc_back {o : Int} {s n : Nat} (h : s < n) (h8 : n % 8 = 0) : plcN o (plcN o s n) n = s := by
  unfold plcN; split <;> omega
/-- A number of 128 places, in two words. -/
abbrev W2 := Nat × Nat
def hasW (x : W2) (p : Nat) : Bool := hasN x.1 x.2 p
def setW (x : W2) (q : Nat) : W2 := if q < 64 then (addN x.1 q, x.2) else (x.1, addN x.2 q)
theorem hasW_set (x : W2) {q p : Nat} (hp : p < 128) (hq : q < 128) : hasW (setW x q) p = (hasW x p || decide (p = q)) := by
  unfold hasW setW hasN
  by_cases h1 : q < 64
  · by_cases h2 : p < 64
    · simp only [h1, h2, if_true]
      unfold addN
      rw [Nat.testBit_or, Nat.testBit_two_pow]
      congr 1
      exact decide_eq_decide.2 (by omega)
    · simp only [h1, h2, if_true, if_false]
      rw [decide_eq_false (by omega), Bool.or_false]
  · by_cases h2 : p < 64
    · simp only [h1, h2, if_true, if_false]
      rw [decide_eq_false (by omega), Bool.or_false]
    · simp only [h1, h2, if_false]
      unfold addN
      rw [Nat.testBit_or, Nat.testBit_two_pow]
      congr 1
      exact decide_eq_decide.2 (by omega)
theorem setW_lt {x : W2} (h1 : x.1 < 18446744073709551616) (h2 : x.2 < 18446744073709551616) (q : Nat) : (setW x q).1 < 18446744073709551616 ∧ (setW x q).2 < 18446744073709551616 := by
  unfold setW; split
  · exact ⟨addN_lt h1, h2⟩
  · exact ⟨h1, addN_lt h2⟩
/-- Two such numbers with the same places are the same. -/
theorem hasW_ext {a b c d : Nat} (ha : a < 18446744073709551616) (hb : b < 18446744073709551616) (hc : c < 18446744073709551616) (hd : d < 18446744073709551616) (h : ∀ p, p < 128 → hasN a b p = hasN c d p) : a = c ∧ b = d := by
  have key : ∀ x y : Nat, x < 18446744073709551616 → y < 18446744073709551616 → (∀ i, i < 64 → x.testBit i = y.testBit i) → x = y := fun x y hx hy h1 => by
    apply Nat.eq_of_testBit_eq
    intro i
    rcases Nat.lt_or_ge i 64 with h2 | h2
    · exact h1 i h2
    · have h3 : 18446744073709551616 ≤ 2 ^ i := by
        have : 2 ^ 64 ≤ 2 ^ i := Nat.pow_le_pow_right (by decide) h2
        simpa using this
      rw [Nat.testBit_lt_two_pow (Nat.lt_of_lt_of_le hx h3), Nat.testBit_lt_two_pow (Nat.lt_of_lt_of_le hy h3)]
  refine ⟨key a c ha hc fun i hi => ?_, key b d hb hd fun i hi => ?_⟩
  · have := h i (by omega)
    unfold hasN at this
    rw [if_pos hi, if_pos hi, Nat.mod_eq_of_lt hi] at this; exact this
  · have := h (64 + i) (by omega)
    have hm : (64 + i) % 64 = i := by omega
    unfold hasN at this
    rw [if_neg (by omega), if_neg (by omega), hm] at this; exact this
theorem hasN_and (a b c d p : Nat) : hasN (a &&& c) (b &&& d) p = (hasN a b p && hasN c d p) := by
  unfold hasN; split <;> exact Nat.testBit_and _ _ _

theorem cLit_has (f : Cf) {q p : Nat} (hp : p < 128) (hq : q < 128) : hasN (cLit f q).l0 (cLit f q).l1 p = (hasN f.l0 f.l1 p || decide (p = q)) := by
  have := hasW_set (f.l0, f.l1) hp hq
  unfold hasW setW at this
  unfold cLit
  split <;> rename_i h <;> simp only [h, if_true, if_false] at this ⊢ <;> exact this
theorem cOne_has (f : Cf) {q p : Nat} (hp : p < 128) (hq : q < 128) : hasN (cOne f q).u0 (cOne f q).u1 p = (hasN f.u0 f.u1 p || decide (p = q)) := by
  have := hasW_set (f.u0, f.u1) hp hq
  unfold hasW setW at this
  unfold cOne
  split <;> rename_i h <;> simp only [h, if_true, if_false] at this ⊢ <;> exact this
theorem cLit_else (f : Cf) (q : Nat) : (cLit f q).u0 = f.u0 ∧ (cLit f q).u1 = f.u1 ∧ (cLit f q).ops = f.ops ∧ (cLit f q).canon = f.canon := by unfold cLit; split <;> exact ⟨rfl, rfl, rfl, rfl⟩
theorem cOne_else (f : Cf) (q : Nat) : (cOne f q).l0 = f.l0 ∧ (cOne f q).l1 = f.l1 ∧ (cOne f q).ops = f.ops ∧ (cOne f q).canon = f.canon := by unfold cOne; split <;> exact ⟨rfl, rfl, rfl, rfl⟩
theorem putC_lit (x : Bt) (f : Cf) {q p : Nat} (hp : p < 128) (hq : q < 128) : hasN (putC x q f).l0 (putC x q f).l1 p = true ↔ hasN f.l0 f.l1 p = true ∨ (q = p ∧ x.arg = -1 ∧ x.lit ≠ 120) := by
  unfold putC
  split
  · rename_i ha
    split
    · rename_i hl
      constructor
      · exact .inl
      · rintro (h | ⟨_, _, h⟩)
        · exact h
        · exact absurd hl h
    · rename_i hl
      split
      · rw [cLit_has _ hp hq, (cOne_else f q).1, (cOne_else f q).2.1, Bool.or_eq_true, decide_eq_true_eq]
        constructor
        · rintro (h | h)
          · exact .inl h
          · exact .inr ⟨h.symm, ha, hl⟩
        · rintro (h | h)
          · exact .inl h
          · exact .inr h.1.symm
      · rw [cLit_has _ hp hq, Bool.or_eq_true, decide_eq_true_eq]
        constructor
        · rintro (h | h)
          · exact .inl h
          · exact .inr ⟨h.symm, ha, hl⟩
        · rintro (h | h)
          · exact .inl h
          · exact .inr h.1.symm
  · rename_i ha
    constructor
    · exact .inl
    · rintro (h | ⟨_, h, _⟩)
      · exact h
      · exact absurd h ha
theorem putC_one (x : Bt) (f : Cf) {q p : Nat} (hp : p < 128) (hq : q < 128) : hasN (putC x q f).u0 (putC x q f).u1 p = true ↔ hasN f.u0 f.u1 p = true ∨ (q = p ∧ x.arg = -1 ∧ x.lit = 49) := by
  unfold putC
  split
  · rename_i ha
    split
    · rename_i hl
      constructor
      · exact .inl
      · rintro (h | ⟨_, _, h⟩)
        · exact h
        · omega
    · rename_i hl
      split
      · rename_i hl2
        rw [(cLit_else _ q).1, (cLit_else _ q).2.1, cOne_has _ hp hq, Bool.or_eq_true, decide_eq_true_eq]
        constructor
        · rintro (h | h)
          · exact .inl h
          · exact .inr ⟨h.symm, ha, hl2⟩
        · rintro (h | h)
          · exact .inl h
          · exact .inr h.1.symm
      · rename_i hl2
        rw [(cLit_else _ q).1, (cLit_else _ q).2.1]
        constructor
        · exact .inl
        · rintro (h | ⟨_, _, h⟩)
          · exact h
          · exact absurd h hl2
  · rename_i ha
    constructor
    · exact .inl
    · rintro (h | ⟨_, h, _⟩)
      · exact h
      · exact absurd h ha
theorem putC_canon (x : Bt) (q : Nat) (f : Cf) : (putC x q f).canon = true ↔ f.canon = true ∧ (x.arg = -1 → x.lit ≠ 120) := by
  unfold putC
  split
  · rename_i ha
    split
    · rename_i hl
      constructor
      · intro h; cases h
      · rintro ⟨_, h⟩; exact absurd hl (h ha)
    · rename_i hl
      split
      · rw [(cLit_else _ q).2.2.2, (cOne_else _ q).2.2.2]
        exact ⟨fun h => ⟨h, fun _ => hl⟩, fun h => h.1⟩
      · rw [(cLit_else _ q).2.2.2]
        exact ⟨fun h => ⟨h, fun _ => hl⟩, fun h => h.1⟩
  · rename_i ha
    exact ⟨fun h => ⟨h, fun h2 => absurd h2 ha⟩, fun h => h.1⟩
/-- What each bit that is laid adds. -/
theorem layC_adds {o : Int} {n p : Nat} (hn : n ≤ 120) (h8 : n % 8 = 0) {G : Cf → Prop} {H : Bt → Prop} (hG : ∀ x f q, q < 128 → (G (putC x q f) ↔ G f ∨ (q = p ∧ H x))) : ∀ (l : List Bt) (wr : Nat) (f : Cf), wr + l.length = n →
    (G (layC o n l wr f) ↔ G f ∨ ∃ (i : Nat) (x : Bt), l[i]? = some x ∧ plcN o (wr + i) n = p ∧ H x)
  | [], _, f, _ => ⟨.inl, fun h => by
    rcases h with h | ⟨i, x, h, _⟩
    · exact h
    · simp at h⟩
  | y :: r, wr, f, hl => by
    have hq : plcN o wr n < 128 := Nat.lt_trans (plcN_lt (by simp at hl; omega) hn h8) (by decide)
    show G (layC o n r (wr + 1) (putC y (plcN o wr n) f)) ↔ _
    rw [layC_adds hn h8 hG r (wr + 1) _ (by simp at hl; omega), hG y f _ hq]
    constructor
    · rintro ((h | ⟨h1, h2⟩) | ⟨i, x, h1, h2, h3⟩)
      · exact .inl h
      · exact .inr ⟨0, y, rfl, h1, h2⟩
      · exact .inr ⟨i + 1, x, by simpa using h1, by rw [show wr + (i + 1) = wr + 1 + i by omega]; exact h2, h3⟩
    · rintro (h | ⟨i, x, h1, h2, h3⟩)
      · exact .inl (.inl h)
      · match i, h1, h2 with
        | 0, h1, h2 =>
          obtain rfl : y = x := by simpa using h1
          exact .inl (.inr ⟨h2, h3⟩)
        | i + 1, h1, h2 => exact .inr ⟨i, x, by simpa using h1, by rw [show wr + 1 + i = wr + (i + 1) by omega]; exact h2, h3⟩
theorem layC_canon {o : Int} {n : Nat} : ∀ (l : List Bt) (wr : Nat) (f : Cf), (layC o n l wr f).canon = true ↔ f.canon = true ∧ ∀ x ∈ l, x.arg = -1 → x.lit ≠ 120
  | [], _, f => by simp [layC]
  | y :: r, wr, f => by
    show (layC o n r (wr + 1) (putC y (plcN o wr n) f)).canon = true ↔ _
    rw [layC_canon r (wr + 1), putC_canon]
    simp only [List.mem_cons, forall_eq_or_imp, and_assoc]
theorem layC_size {o : Int} {n : Nat} : ∀ (l : List Bt) (wr : Nat) (f : Cf), (layC o n l wr f).size = f.size
  | [], _, f => rfl
  | y :: r, wr, f => by
    show (layC o n r (wr + 1) (putC y (plcN o wr n) f)).size = _
    rw [layC_size r (wr + 1), putC_size]
theorem layC_ok {o : Int} {n : Nat} : ∀ (l : List Bt) (wr : Nat) (f : Cf), CfOk f → CfOk (layC o n l wr f)
  | [], _, f, h => h
  | y :: r, wr, f, h => layC_ok r (wr + 1) _ (putC_ok h y _)
/-- An operand's class in place of its number. -/
def clO (D : Ds) (x : Int × List Int) : Cl × List Int := ((D.cls[x.1.toNat]?).getD ⟨0, 0, 0, 0, 0, []⟩, x.2)
theorem putC_ops {D : Ds} {x : Bt} {q : Nat} {L : Ly} {f : Cf} (h : L.ops = f.ops.map (clO D)) : (putB x q L).ops = (putC x q f).ops.map (clO D) := by
  unfold putB putC
  split
  · have e1 : (if x.lit = 48 then addZ L q else if x.lit = 49 then addU L q else L).ops = L.ops := by
      split
      · exact (addZ_else L q).2.2
      · split
        · exact (addU_else L q).2.2
        · rfl
    have e2 : (if x.lit = 120 then { f with canon := false } else if x.lit = 49 then cLit (cOne f q) q else cLit f q).ops = f.ops := by
      split
      · rfl
      · split
        · rw [(cLit_else _ q).2.2.1, (cOne_else _ q).2.2.1]
        · exact (cLit_else _ q).2.2.1
    rw [e1, e2, h]
  · unfold putO cArg
    simp only [h]
    apply List.ext_getElem?
    intro i
    simp only [List.getElem?_modify, List.getElem?_map]
    by_cases hi : x.arg.toNat = i
    · simp only [hi, if_true]
      cases f.ops[i]? <;> simp [clO]
    · simp only [hi, if_false]
      cases f.ops[i]? <;> simp
theorem layC_ops {D : Ds} {o : Int} {n : Nat} : ∀ (l : List Bt) (wr : Nat) (L : Ly) (f : Cf), L.ops = f.ops.map (clO D) → (layB o n l wr L).ops = (layC o n l wr f).ops.map (clO D)
  | [], _, _, _, h => h
  | x :: r, wr, L, f, h => layC_ops r (wr + 1) _ _ (putC_ops h)
theorem putC_cls (x : Bt) (q : Nat) (f : Cf) : (putC x q f).ops.map (·.1) = f.ops.map (·.1) := by
  unfold putC
  split
  · have e2 : (if x.lit = 120 then { f with canon := false } else if x.lit = 49 then cLit (cOne f q) q else cLit f q).ops = f.ops := by
      split
      · rfl
      · split
        · rw [(cLit_else _ q).2.2.1, (cOne_else _ q).2.2.1]
        · exact (cLit_else _ q).2.2.1
    rw [e2]
  · unfold cArg
    apply List.ext_getElem?
    intro i
    simp only [List.getElem?_modify, List.getElem?_map]
    by_cases hi : x.arg.toNat = i
    · simp only [hi, if_true]
      cases f.ops[i]? <;> simp
    · simp only [hi, if_false]
      cases f.ops[i]? <;> simp
theorem layC_cls {o : Int} {n : Nat} : ∀ (l : List Bt) (wr : Nat) (f : Cf), (layC o n l wr f).ops.map (·.1) = f.ops.map (·.1)
  | [], _, f => rfl
  | y :: r, wr, f => by
    show (layC o n r (wr + 1) (putC y (plcN o wr n) f)).ops.map (·.1) = _
    rw [layC_cls r (wr + 1), putC_cls]
end Go.Proofs.YtdipnhghdajplaaGreatDoor
