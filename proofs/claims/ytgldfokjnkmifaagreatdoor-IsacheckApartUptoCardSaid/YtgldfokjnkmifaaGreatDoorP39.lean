/- The first thing that isn't right in a description: Check. No bytes are two instructions: the walk of the law. -/
import Derived.Test.YtgldfokjnkmifaaGreatDoorP34
import Derived.Test.YtgldfokjnkmifaaGreatDoorP27b
import Derived.Test.YtgldfokjnkmifaaGreatDoorP38
import Derived.Test.YtgldfokjnkmifaaGreatDoorP37
namespace Go.Proofs.YtgldfokjnkmifaaGreatDoor
open Go.RowKit
set_option linter.unusedSimpArgs false
set_option linter.unusedVariables false

/-- The first form of which the pattern or the effects aren't right. -/
def badL (D : Ds) : List Fm → Nat → Option (Nat × Int)
  | [], _ => none
  | f :: r, n => if patN D f.args f.pcs / 8 = 0 then some (n, 52) else if effL (D.env f.args) f.sem = false then some (n, 53) else badL D r (n + 1)
/-- The first thing that isn't right. -/
def chkN (D : Ds) : Int × Int := if partsB D = false then (-1, 51) else match badL D D.fms 0 with
  | some (n, e) => ((n : Int), e)
  | none => match clashN D with
    | some n => ((n : Int), 54)
    | none => if linksB D = true then (0, 0) else (-1, 51)
def chkV (D : Ds) : Value := .tuple #[.int .i64 (chkN D).1, .int .i64 (chkN D).2]
theorem badL_none {D : Ds} : ∀ (l : List Fm) (n : Nat), badL D l n = none → ∀ f ∈ l, patN D f.args f.pcs / 8 ≠ 0 ∧ effL (D.env f.args) f.sem = true
  | [], _, _, f, hf => by cases hf
  | g :: r, n, h, f, hf => by
    unfold badL at h
    split at h
    · cases h
    · rename_i h1
      split at h
      · cases h
      · rename_i h2
        rcases List.mem_cons.1 hf with rfl | hf
        · exact ⟨h1, by simpa using h2⟩
        · exact badL_none r (n + 1) h f hf
theorem clV_cases (D : Ds) : (clashN D = none ∧ clV D = .tuple #[.int .i64 0, .bool false]) ∨ (∃ n, clashN D = some n ∧ clV D = .tuple #[.int .i64 (n : Int), .bool true]) := by
  unfold clV
  cases clashN D with
  | none => exact .inl ⟨rfl, rfl⟩
  | some n => exact .inr ⟨n, rfl, rfl⟩
theorem parts_512 {D : Ds} (h : partsB D = true) : D.fms.length ≤ 512 := by
  unfold partsB at h
  simp only [Bool.and_eq_true, decide_eq_true_eq] at h
  omega
def RelCk (D : Ds) (W1 : World) (i : Value) (wr : World) : Prop := ∃ j : Nat, j ≤ D.fms.length ∧ i = .int .i64 (j : Int) ∧ Fr W1 wr ∧ badL D D.fms 0 = badL D (D.fms.drop j) j
set_option maxHeartbeats 25600000 in
set_option maxRecDepth 100000 in
theorem check_any {w : World} {D : Ds} {v : Array Value} (hD : DescAt w D v) (hS : D.Small) (hL : D.Light) :
    Calls Tryz.prog 9 #[.agg v] w fun e w' => e = .returned (chkV D) ∧ Fr w w' := by
  have HD := Lib.hid hD
  have HPA := Lib.hid (fun (w1 : World) (k : Fr w w1) => partsRight_any (hD.fr k) hS)
  have HLK := Lib.hid (fun (w1 : World) (k : Fr w w1) => linksRight_any (hD.fr k) hS)
  have HSZ := Lib.hid (fun (w1 : World) (k : Fr w w1) (n : Nat) (hn : n < D.fms.length) => size_any (hD.fr k) hL n hn)
  have HEF := Lib.hid (fun (w1 : World) (k : Fr w w1) (n : Nat) (hn : n < D.fms.length) => effectsRight_any (hD.fr k) n hn)
  have HFC := Lib.hid (fun (w1 : World) (k : Fr w w1) => firstClash_any (hD.fr k) hL)
  obtain ⟨s0, Fa, Ba, Ga, Ca, Ma, Ra, Ua, Xa, Ka, Na, Pa, fc, bc, gc, cc, mc, rc, uc, xc, kc, nl, nc, pc, rfl, h1, h2, h3, h4, h5, h6, h7, h8, h9⟩ := hD
  have HDV := Lib.hid (show BlkAt (w.alloc (.cells #[.string s0, .int .i64 D.order, .slice Fa D.files.length fc, .slice Ba D.als.length bc, .slice Ga D.nflags gc, .slice Ca D.cls.length cc, .slice Ma D.fms.length mc, .slice Ra D.rels.length rc, .slice Ua D.uses.length uc, .slice Xa D.rxs.length xc, .slice Ka D.mcs.length kc, .slice Na nl nc, .slice Pa D.regs.length pc] 33)) w.heap.size [.string s0, .int .i64 D.order, .slice Fa D.files.length fc, .slice Ba D.als.length bc, .slice Ga D.nflags gc, .slice Ca D.cls.length cc, .slice Ma D.fms.length mc, .slice Ra D.rels.length rc, .slice Ua D.uses.length uc, .slice Xa D.rxs.length xc, .slice Ka D.mcs.length kc, .slice Na nl nc, .slice Pa D.regs.length pc] from BlkAt.alloc)
  have HF1 := Lib.hid (show Fr w (w.alloc (.cells #[.string s0, .int .i64 D.order, .slice Fa D.files.length fc, .slice Ba D.als.length bc, .slice Ga D.nflags gc, .slice Ca D.cls.length cc, .slice Ma D.fms.length mc, .slice Ra D.rels.length rc, .slice Ua D.uses.length uc, .slice Xa D.rxs.length xc, .slice Ka D.mcs.length kc, .slice Na nl nc, .slice Pa D.regs.length pc] 33)) from Fr.alloc (Fr.refl w) _)
  obtain ⟨cv, hcv⟩ : ∃ cv, chkV D = cv := ⟨_, rfl⟩
  rw [hcv]
  have HCV := Lib.hid hcv
  have hfl : D.fms.length ≤ maxLen := hS.2.2.2.2.1
  have hml : D.fms.length ≤ 9223372036854775807 := Nat.le_trans hfl (by decide)
  clear hcv h1 h2 h3 h4 h5 h6 h7 h8 h9 hS hL hfl
  go_enter Tryz.func9, Tryz.ntmps9
  go_wp2_with fail
  generalize World.alloc w _ = W1 at *
  refine (HPA.out _ HF1.out).mono ?_
  rintro e w4 ⟨rfl, hf4⟩
  have HF4 := Lib.hid hf4
  clear hf4
  obtain ⟨pb, hpb⟩ : ∃ pb, partsB D = pb := ⟨_, rfl⟩
  have HPB := Lib.hid hpb
  rw [hpb]
  clear hpb
  cases pb with
  | false =>
    have HV := Lib.hid (show cv = .tuple #[.int .i64 (-1), .int .i64 51] by rw [← HCV.out]; unfold chkV chkN; rw [if_pos HPB.out])
    go_wp2
    go_ret2
    exact ⟨by rw [HV.out]; rfl, HF1.out.call HF4.out⟩
  | true =>
    have d6 := HDV.out.fr HF4.out 6 _ rfl
    have zd := lt_of_cell d6
    go_wp2_with fail
    clear d6 zd
    go_loopw [13] (fun i wr => RelCk D W1 i wr) (fun i _ => D.fms.length - (intOf i).toNat)
    case atStart => exact ⟨0, Nat.zero_le _, rfl, HF4.out, by rw [List.drop_zero]⟩
    case round =>
      obtain ⟨j, hj, rfl, hf, hb⟩ := hrel
      have HF := Lib.hid hf
      have HB := Lib.hid hb
      by_cases hlt : j < D.fms.length
      · have HDR := Lib.hid (List.drop_eq_getElem_cons hlt)
        have hji : (j : Int) < (D.fms.length : Int) := by omega
        have HSZ1 := Lib.hid (fun (w1 : World) (k : Fr w w1) => HSZ.out w1 k j hlt)
        have HEF1 := Lib.hid (fun (w1 : World) (k : Fr w w1) => HEF.out w1 k j hlt)
        rw [HDR.out] at hb
        have HB1 := Lib.hid (show badL D D.fms 0 = (if patN D D.fms[j].args D.fms[j].pcs / 8 = 0 then some (j, 52) else if effL (D.env D.fms[j].args) D.fms[j].sem = false then some (j, 53) else badL D (D.fms.drop (j + 1)) (j + 1)) from hb)
        generalize patN D (D.fms[j]).args (D.fms[j]).pcs / 8 = sz at *
        generalize effL (D.env (D.fms[j]).args) (D.fms[j]).sem = ef at *
        have d0 := (HDV.out.fr HF.out) 0 _ rfl; have d1 := (HDV.out.fr HF.out) 1 _ rfl; have d2 := (HDV.out.fr HF.out) 2 _ rfl; have d3 := (HDV.out.fr HF.out) 3 _ rfl; have d4 := (HDV.out.fr HF.out) 4 _ rfl; have d5 := (HDV.out.fr HF.out) 5 _ rfl; have d6 := (HDV.out.fr HF.out) 6 _ rfl; have d7 := (HDV.out.fr HF.out) 7 _ rfl; have d8 := (HDV.out.fr HF.out) 8 _ rfl; have d9 := (HDV.out.fr HF.out) 9 _ rfl; have d10 := (HDV.out.fr HF.out) 10 _ rfl; have d11 := (HDV.out.fr HF.out) 11 _ rfl; have d12 := (HDV.out.fr HF.out) 12 _ rfl; have zd := lt_of_cell d0
        clear hf hb
        go_wp2_with fail
        refine (HSZ1.out _ (HF1.out.call HF.out)).mono ?_
        rintro e w5 ⟨rfl, hf5⟩
        have HF5 := Lib.hid (HF.out.call hf5)
        clear hf5 d0 d1 d2 d3 d4 d5 d6 d7 d8 d9 d10 d11 d12 zd
        by_cases hsz : sz = 0
        · have HV := Lib.hid (show cv = .tuple #[.int .i64 (j : Int), .int .i64 52] by
            rw [← HCV.out]; unfold chkV chkN; rw [if_neg (by rw [HPB.out]; decide), HB1.out, if_pos hsz])
          subst hsz
          go_wp2
          go_ret2
          exact ⟨by rw [HV.out]; rfl, HF1.out.call HF5.out⟩
        · have hsi : ((sz : Int) == 0) = false := by rw [beq_eq_false_iff_ne]; omega
          have hsz2 : ¬ (sz : Int) = 0 := by omega
          rw [if_neg hsz] at HB1
          have d0 := (HDV.out.fr HF5.out) 0 _ rfl; have d1 := (HDV.out.fr HF5.out) 1 _ rfl; have d2 := (HDV.out.fr HF5.out) 2 _ rfl; have d3 := (HDV.out.fr HF5.out) 3 _ rfl; have d4 := (HDV.out.fr HF5.out) 4 _ rfl; have d5 := (HDV.out.fr HF5.out) 5 _ rfl; have d6 := (HDV.out.fr HF5.out) 6 _ rfl; have d7 := (HDV.out.fr HF5.out) 7 _ rfl; have d8 := (HDV.out.fr HF5.out) 8 _ rfl; have d9 := (HDV.out.fr HF5.out) 9 _ rfl; have d10 := (HDV.out.fr HF5.out) 10 _ rfl; have d11 := (HDV.out.fr HF5.out) 11 _ rfl; have d12 := (HDV.out.fr HF5.out) 12 _ rfl; have zd := lt_of_cell d0
          go_wp2_with fail
          refine (HEF1.out _ (HF1.out.call HF5.out)).mono ?_
          rintro e w6 ⟨rfl, hf6⟩
          have HF6 := Lib.hid (HF5.out.call hf6)
          clear hf6 d0 d1 d2 d3 d4 d5 d6 d7 d8 d9 d10 d11 d12 zd
          cases ef with
          | false =>
            have HV := Lib.hid (show cv = .tuple #[.int .i64 (j : Int), .int .i64 53] by
              rw [← HCV.out]; unfold chkV chkN; rw [if_neg (by rw [HPB.out]; decide), HB1.out, if_pos rfl])
            go_wp2
            go_ret2
            exact ⟨by rw [HV.out]; rfl, HF1.out.call HF6.out⟩
          | true =>
            have HB2 := Lib.hid (HB1.out.trans (if_neg (by decide)))
            go_wp2
            go_roundw
            case rel => exact ⟨j + 1, by omega, by go_num, HF6.out, HB2.out⟩
            case measure => simp [intOf]; omega
      · obtain rfl : j = D.fms.length := by omega
        rw [List.drop_length] at hb
        have HBN := Lib.hid (show badL D D.fms 0 = none from hb)
        have HAL := Lib.hid (badL_none D.fms 0 hb)
        have HPT := Lib.hid (show ∀ f ∈ D.fms, patN D f.args f.pcs ≠ 0 from fun f hf h0 => (HAL.out f hf).1 (by rw [h0]))
        have h512 : D.fms.length ≤ 512 := parts_512 HPB.out
        have d0 := (HDV.out.fr HF.out) 0 _ rfl; have d1 := (HDV.out.fr HF.out) 1 _ rfl; have d2 := (HDV.out.fr HF.out) 2 _ rfl; have d3 := (HDV.out.fr HF.out) 3 _ rfl; have d4 := (HDV.out.fr HF.out) 4 _ rfl; have d5 := (HDV.out.fr HF.out) 5 _ rfl; have d6 := (HDV.out.fr HF.out) 6 _ rfl; have d7 := (HDV.out.fr HF.out) 7 _ rfl; have d8 := (HDV.out.fr HF.out) 8 _ rfl; have d9 := (HDV.out.fr HF.out) 9 _ rfl; have d10 := (HDV.out.fr HF.out) 10 _ rfl; have d11 := (HDV.out.fr HF.out) 11 _ rfl; have d12 := (HDV.out.fr HF.out) 12 _ rfl; have zd := lt_of_cell d0
        clear hf hb
        go_wp2_with fail
        refine (HFC.out _ (HF1.out.call HF.out) HPT.out h512).mono ?_
        rintro e w5 ⟨rfl, hf5⟩
        have HF5 := Lib.hid (HF.out.call hf5)
        clear hf5 d0 d1 d2 d3 d4 d5 d6 d7 d8 d9 d10 d11 d12 zd
        rcases clV_cases D with ⟨hc, hv⟩ | ⟨n, hc, hv⟩
        · rw [hv]
          have HC := Lib.hid hc
          clear hv hc
          have d0 := (HDV.out.fr HF5.out) 0 _ rfl; have d1 := (HDV.out.fr HF5.out) 1 _ rfl; have d2 := (HDV.out.fr HF5.out) 2 _ rfl; have d3 := (HDV.out.fr HF5.out) 3 _ rfl; have d4 := (HDV.out.fr HF5.out) 4 _ rfl; have d5 := (HDV.out.fr HF5.out) 5 _ rfl; have d6 := (HDV.out.fr HF5.out) 6 _ rfl; have d7 := (HDV.out.fr HF5.out) 7 _ rfl; have d8 := (HDV.out.fr HF5.out) 8 _ rfl; have d9 := (HDV.out.fr HF5.out) 9 _ rfl; have d10 := (HDV.out.fr HF5.out) 10 _ rfl; have d11 := (HDV.out.fr HF5.out) 11 _ rfl; have d12 := (HDV.out.fr HF5.out) 12 _ rfl; have zd := lt_of_cell d0
          go_wp2_with fail
          refine (HLK.out _ (HF1.out.call HF5.out)).mono ?_
          rintro e w6 ⟨rfl, hf6⟩
          have HF6 := Lib.hid (HF5.out.call hf6)
          clear hf6 d0 d1 d2 d3 d4 d5 d6 d7 d8 d9 d10 d11 d12 zd
          obtain ⟨lb, hlb⟩ : ∃ lb, linksB D = lb := ⟨_, rfl⟩
          have HLB := Lib.hid hlb
          rw [hlb]
          clear hlb
          cases lb with
          | false =>
            have HV := Lib.hid (show cv = .tuple #[.int .i64 (-1), .int .i64 51] by
              rw [← HCV.out]; unfold chkV chkN; rw [if_neg (by rw [HPB.out]; decide), HBN.out, HC.out]; dsimp only; rw [if_neg (by rw [HLB.out]; decide)])
            go_wp2
            go_ret2
            exact ⟨by rw [HV.out]; rfl, HF1.out.call HF6.out⟩
          | true =>
            have HV := Lib.hid (show cv = .tuple #[.int .i64 0, .int .i64 0] by
              rw [← HCV.out]; unfold chkV chkN; rw [if_neg (by rw [HPB.out]; decide), HBN.out, HC.out]; dsimp only; rw [if_pos HLB.out])
            go_wp2
            go_ret2
            exact ⟨by rw [HV.out]; rfl, HF1.out.call HF6.out⟩
        · rw [hv]
          have HV := Lib.hid (show cv = .tuple #[.int .i64 (n : Int), .int .i64 54] by
            rw [← HCV.out]; unfold chkV chkN; rw [if_neg (by rw [HPB.out]; decide), HBN.out, hc])
          clear hv hc
          go_wp2
          go_ret2
          exact ⟨by rw [HV.out]; rfl, HF1.out.call HF5.out⟩
end Go.Proofs.YtgldfokjnkmifaaGreatDoor
namespace Go.Proofs.YtgldfokjnkmifaaGreatDoor
open Go.RowKit
set_option linter.unusedSimpArgs false
set_option linter.unusedVariables false

theorem badL_e {D : Ds} : ∀ (l : List Fm) (n m : Nat) (e : Int), badL D l n = some (m, e) → e = 52 ∨ e = 53
  | [], _, _, _, h => by cases h
  | f :: r, n, m, e, h => by
    unfold badL at h
    split at h
    · injection h with h; injection h with _ h; exact .inl h.symm
    · split at h
      · injection h with h; injection h with _ h; exact .inr h.symm
      · exact badL_e r (n + 1) m e h
/-- What it says that a description is right. -/
theorem chk_ok {D : Ds} (h : (chkN D).2 = 0) : (∀ f ∈ D.fms, patN D f.args f.pcs ≠ 0) ∧ ∀ n, n < D.fms.length → clashAt D n = false := by
  unfold chkN at h
  split at h
  · exact absurd h (by decide)
  · cases hb : badL D D.fms 0 with
    | some x =>
      obtain ⟨n, e⟩ := x
      rw [hb] at h
      have h : e = 0 := h
      rcases badL_e _ _ _ _ hb with rfl | rfl <;> cases h
    | none =>
      rw [hb] at h
      cases hc : clashN D with
      | some n =>
        rw [hc] at h
        have h : (54 : Int) = 0 := h
        omega
      | none =>
        refine ⟨fun f hf h0 => (badL_none _ _ hb f hf).1 (by rw [h0]), fun n hn => ?_⟩
        have := List.find?_eq_none.1 hc n (by simpa using hn)
        simpa using this
theorem two_no {D : Ds} (h : (chkN D).2 = 0) {β : Nat → Bool} {i j : Nat} (hij : i < j) (hj : j < D.fms.length) (h1 : FitL β (layF D (D.fms[i]'(Nat.lt_trans hij hj)))) (h2 : FitL β (layF D D.fms[j])) : False := by
  obtain ⟨hp, hc⟩ := chk_ok h
  have hi := Nat.lt_trans hij hj
  have h3 := hc j hj
  unfold clashAt at h3
  rw [List.getElem?_eq_getElem hj] at h3
  have h4 : (D.fms.take j).all (fun g => apB (layF D g) (layF D D.fms[j])) = true := by simpa using h3
  have h5 := List.all_eq_true.1 h4 D.fms[i] (List.mem_take_iff_getElem.2 ⟨i, by omega, rfl⟩)
  have h6 := apart_no (layD_ok (hp _ (List.getElem_mem hi))) (layD_ok (hp _ (List.getElem_mem hj))) h1 h2
  have h5 : apB (layF D D.fms[i]) (layF D D.fms[j]) = true := h5
  unfold layF at h5
  rw [h6] at h5; cases h5
def RelAp (D : Ds) (β : Nat → Bool) (W1 : World) (i fv : Value) (wr : World) : Prop := ∃ (j f : Nat), j ≤ D.fms.length ∧ i = .int .i64 (j : Int) ∧ fv = .int .i64 (f : Int) ∧ Fr W1 wr ∧ (f = 0 ∨ f = 1 ∧ ∃ (k : Nat) (hk : k < D.fms.length), k < j ∧ FitL β (layF D D.fms[k]))
set_option maxHeartbeats 12800000 in
set_option maxRecDepth 100000 in
theorem apart_walk {w : World} {D : Ds} {v : Array Value} (hD : DescAt w D v) (hS : D.Small) (hL : D.Light) (Y : Option Addr) (bs : List Nat) (yc : Nat) (hY : RowOf BnC 1 w Y bs) (hyl : bs.length ≤ 1048576)
    (alive : ∀ w : World, Calls Tryz.prog 8 #[] w fun e w' => e = .returned (.bool true) ∧ Fr w w') :
    Calls Tryz.prog 3 #[.agg v, .slice Y bs.length yc] w fun e w' => e = .returned (.bool true) ∧ Fr w w' := by
  have HAL := Lib.hid alive
  have HCK := Lib.hid (fun (w1 : World) (k : Fr w w1) => check_any (hD.fr k) hS hL)
  have HFT := Lib.hid (fun (w1 : World) (k : Fr w w1) fn fs Aa Bp Cs args pcs ac bc2 cl cc2 hA hP hL1 hn => fits_any (hD.fr k) fn fs Aa Bp Cs args pcs ac bc2 cl cc2 hA hP hL1 hn Y bs yc (hY.fr fun _ _ _ x => BnC.fr x k) hyl)
  have HLT := Lib.hid hL
  have hml : D.fms.length ≤ 9223372036854775807 := Nat.le_trans hS.2.2.2.2.1 (by decide)
  obtain ⟨s0, Fa, Ba, Ga, Ca, Ma, Ra, Ua, Xa, Ka, Na, Pa, fc, bc, gc, cc, mc, rc, uc, xc, kc, nl, nc, pc, rfl, h1, h2, h3, h4, h5, h6, h7, h8, h9⟩ := hD
  have HFM := Lib.hid h4
  have HDV := Lib.hid (show BlkAt (w.alloc (.cells #[.string s0, .int .i64 D.order, .slice Fa D.files.length fc, .slice Ba D.als.length bc, .slice Ga D.nflags gc, .slice Ca D.cls.length cc, .slice Ma D.fms.length mc, .slice Ra D.rels.length rc, .slice Ua D.uses.length uc, .slice Xa D.rxs.length xc, .slice Ka D.mcs.length kc, .slice Na nl nc, .slice Pa D.regs.length pc] 33)) w.heap.size [.string s0, .int .i64 D.order, .slice Fa D.files.length fc, .slice Ba D.als.length bc, .slice Ga D.nflags gc, .slice Ca D.cls.length cc, .slice Ma D.fms.length mc, .slice Ra D.rels.length rc, .slice Ua D.uses.length uc, .slice Xa D.rxs.length xc, .slice Ka D.mcs.length kc, .slice Na nl nc, .slice Pa D.regs.length pc] from BlkAt.alloc)
  have HF1 := Lib.hid (show Fr w (w.alloc (.cells #[.string s0, .int .i64 D.order, .slice Fa D.files.length fc, .slice Ba D.als.length bc, .slice Ga D.nflags gc, .slice Ca D.cls.length cc, .slice Ma D.fms.length mc, .slice Ra D.rels.length rc, .slice Ua D.uses.length uc, .slice Xa D.rxs.length xc, .slice Ka D.mcs.length kc, .slice Na nl nc, .slice Pa D.regs.length pc] 33)) from Fr.alloc (Fr.refl w) _)
  clear h1 h2 h3 h4 h5 h6 h7 h8 h9 hL hS alive hY
  go_enter Tryz.func3, Tryz.ntmps3
  go_wp2_with fail
  generalize World.alloc w _ = W1 at *
  refine (HAL.out _).mono ?_
  rintro e w3 ⟨rfl, hf3⟩
  have HF3 := Lib.hid hf3
  have d0 := (HDV.out.fr HF3.out) 0 _ rfl; have d1 := (HDV.out.fr HF3.out) 1 _ rfl; have d2 := (HDV.out.fr HF3.out) 2 _ rfl; have d3 := (HDV.out.fr HF3.out) 3 _ rfl; have d4 := (HDV.out.fr HF3.out) 4 _ rfl; have d5 := (HDV.out.fr HF3.out) 5 _ rfl; have d6 := (HDV.out.fr HF3.out) 6 _ rfl; have d7 := (HDV.out.fr HF3.out) 7 _ rfl; have d8 := (HDV.out.fr HF3.out) 8 _ rfl; have d9 := (HDV.out.fr HF3.out) 9 _ rfl; have d10 := (HDV.out.fr HF3.out) 10 _ rfl; have d11 := (HDV.out.fr HF3.out) 11 _ rfl; have d12 := (HDV.out.fr HF3.out) 12 _ rfl; have zd := lt_of_cell d0
  clear hf3
  go_wp2_with fail
  refine (HCK.out _ (HF1.out.call HF3.out)).mono ?_
  rintro e w4 ⟨rfl, hf4⟩
  have HF4 := Lib.hid (HF3.out.call hf4)
  clear hf4 d0 d1 d2 d3 d4 d5 d6 d7 d8 d9 d10 d11 d12 zd
  have HKO := Lib.hid (fun h => chk_ok (D := D) h)
  have HTW := Lib.hid (fun h => @two_no D h (bitOf bs))
  obtain ⟨c1, hc1⟩ : ∃ c1, (chkN D).1 = c1 := ⟨_, rfl⟩
  obtain ⟨c2, hc2⟩ : ∃ c2, (chkN D).2 = c2 := ⟨_, rfl⟩
  rw [show chkV D = .tuple #[.int .i64 c1, .int .i64 c2] by unfold chkV; rw [hc1, hc2]]
  rw [hc2] at HKO HTW
  clear hc1 hc2
  by_cases h0 : c2 = 0
  · subst h0
    have d6 := HDV.out.fr HF4.out 6 _ rfl
    have zd := lt_of_cell d6
    by_cases h200 : D.fms.length ≤ 200
    · have h200i : (D.fms.length : Int) ≤ 200 := by omega
      go_wp2
      clear d6 zd
      go_loopw [28, 7] (fun i fv wr => RelAp D (bitOf bs) W1 i fv wr) (fun i _ _ => D.fms.length - (intOf i).toNat)
      case atStart => exact ⟨0, 0, Nat.zero_le _, rfl, rfl, HF4.out, .inl rfl⟩
      case round =>
        obtain ⟨j, q, hj, rfl, rfl, hf, hq⟩ := hrel
        have HF := Lib.hid hf
        have HQ := Lib.hid hq
        have hq1 : q ≤ 1 := by rcases hq with rfl | ⟨rfl, _⟩ <;> decide
        clear hq
        by_cases hlt : j < D.fms.length
        · have HTJ := Lib.hid (fun (k : Nat) (hk : k < D.fms.length) (hkj : k < j) (h1 : FitL (bitOf bs) (layF D D.fms[k])) (h2 : FitL (bitOf bs) (layF D D.fms[j])) => HTW.out (by trivial) hkj hlt h1 h2)
          have HMEM := Lib.hid (List.getElem_mem hlt)
          obtain ⟨bm, om, rfl, hx⟩ := (HFM.out.fr fun _ _ _ x => x.fr (HF1.out.call hf)).at hlt
          rw [Nat.mul_comm 5 j] at hx
          have HFJ := Lib.hid (fun (h : FitL (bitOf bs) (layF D D.fms[j])) => (⟨j, hlt, Nat.lt_succ_self j, h⟩ : ∃ (k : Nat) (hk : k < D.fms.length), k < j + 1 ∧ FitL (bitOf bs) (layF D D.fms[k])))
          generalize D.fms[j] = f at *
          obtain ⟨f0, f1, A2, k2, A3, k3, A4, k4, c0, c1', u2, v2, c2', r2, u3, v3, c3, r3, u4, v4, c4, r4⟩ := hx
          have HFX := Lib.hid (Fr.alloc (Fr.refl wr) (.cells #[.string f0, .string f1, .slice A2 f.args.length k2, .slice A3 f.pcs.length k3, .slice A4 f.sem.length k4] 43))
          have HFT1 := Lib.hid (HFT.out _ (HF1.out.call (HF.out.call HFX.out)) f0 f1 A2 A3 A4 f.args f.pcs k2 k3 f.sem.length k4 (r2.fr fun _ _ _ x => x.fr HFX.out) (r3.fr fun _ _ _ x => x.fr HFX.out) (HLT.out f HMEM.out) ((HKO.out (by trivial)).1 f HMEM.out))
          have d0 := (HDV.out.fr HF.out) 0 _ rfl; have d1 := (HDV.out.fr HF.out) 1 _ rfl; have d2 := (HDV.out.fr HF.out) 2 _ rfl; have d3 := (HDV.out.fr HF.out) 3 _ rfl; have d4 := (HDV.out.fr HF.out) 4 _ rfl; have d5 := (HDV.out.fr HF.out) 5 _ rfl; have d6 := (HDV.out.fr HF.out) 6 _ rfl; have d7 := (HDV.out.fr HF.out) 7 _ rfl; have d8 := (HDV.out.fr HF.out) 8 _ rfl; have d9 := (HDV.out.fr HF.out) 9 _ rfl; have d10 := (HDV.out.fr HF.out) 10 _ rfl; have d11 := (HDV.out.fr HF.out) 11 _ rfl; have d12 := (HDV.out.fr HF.out) 12 _ rfl; have zd := lt_of_cell d0
          have zc := lt_of_cell c0
          have hji : (j : Int) < (D.fms.length : Int) := by omega
          clear u2 v2 u3 v3 u4 v4 r2 r3 r4 hf
          go_wp2_with fail
          refine HFT1.out.mono ?_
          rintro e w6 ⟨r, rfl, hr, hf6⟩
          have HF6 := Lib.hid (HF.out.call (HFX.out.call hf6))
          have HR := Lib.hid hr
          clear hf6 hr c0 c1' c2' c3 c4 zc d0 d1 d2 d3 d4 d5 d6 d7 d8 d9 d10 d11 d12 zd
          cases r with
          | false =>
            go_wp2
            go_roundw
            case rel => exact ⟨j + 1, q, by omega, by go_num, rfl, HF6.out, HQ.out.imp id fun h => ⟨h.1, h.2.elim fun k h => h.elim fun hk h => ⟨k, hk, Nat.lt_succ_of_lt h.1, h.2⟩⟩⟩
            case measure => simp [intOf]; omega
          | true =>
            have hq0 : q = 0 := by
              rcases HQ.out with h | ⟨_, k, hk, hkj, hfit⟩
              · exact h
              · exact (HTJ.out k hk hkj hfit (HR.out (by trivial))).elim
            subst hq0
            go_wp2
            go_roundw
            case rel => exact ⟨j + 1, 1, by omega, by go_num, rfl, HF6.out, .inr ⟨rfl, HFJ.out (HR.out (by trivial))⟩⟩
            case measure => simp [intOf]; omega
        · obtain rfl : j = D.fms.length := by omega
          have hqi : (q : Int) ≤ 1 := by omega
          clear hf hj
          go_wp2
          go_ret
          exact ⟨ret_bool (by simp; try omega), HF1.out.call HF.out⟩
    · have h200i : (200 : Int) < (D.fms.length : Int) := by omega
      go_wp2
      go_ret
      exact ⟨rfl, HF1.out.call HF4.out⟩
  · have h0n : (c2 != 0) = true := bne_iff_ne.2 h0
    have h00 : ¬ c2 = 0 := h0
    clear h0
    go_wp2
    go_ret
    exact ⟨rfl, HF1.out.call HF4.out⟩
end Go.Proofs.YtgldfokjnkmifaaGreatDoor
