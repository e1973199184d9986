/- The printer's list. -/
import Derived.Test.YtonlmennpbklgaaDoorTf
import Derived.Test.YtonlmennpbklgaaDoorSba
namespace Go.Proofs.YtonlmennpbklgaaDoor
open Go.RowKit
set_option linter.unusedSimpArgs false
set_option linter.unusedVariables false

theorem prK_step (ks : List T) (j : Nat) (h : j < ks.length) : prK (ks.take (j + 1)) = prK (ks.take j) ++ ((if j = 0 then [] else [32]) ++ prT ks[j]) := by
  rw [List.take_succ_eq_append_getElem h]
  by_cases h0 : j = 0
  · subst h0
    simp [prK, prR]
  · rw [if_neg h0, prK_app _ (by intro e; have := congrArg List.length e; rw [List.length_take, List.length_nil] at this; omega)]
    congr 1
    rw [prR_cons]; simp [prR]
theorem prK_more (ks : List T) (j : Nat) (h : j < ks.length) : ∃ Z, prK ks = prK (ks.take (j + 1)) ++ Z := by
  refine ⟨prR (ks.drop (j + 1)), ?_⟩
  conv => lhs; rw [← List.take_append_drop (j + 1) ks]
  rw [prK_app _ (by intro e; have := congrArg List.length e; rw [List.length_take, List.length_nil] at this; omega)]
theorem cntL_app2 : ∀ l m : List T, cntL (l ++ m) = cntL l + cntL m
  | [], m => by simp [cntL]
  | x :: r, m => by simp [cntL, cntL_app2 r m]; omega
theorem cntL_step (ks : List T) (j : Nat) (h : j < ks.length) : cntL (ks.take (j + 1)) = cntL (ks.take j) + cntT ks[j] := by
  rw [List.take_succ_eq_append_getElem h, cntL_app2]; simp [cntL]
theorem cntL_most (ks : List T) (j : Nat) : cntL (ks.take j) ≤ cntL ks := by
  conv => rhs; rw [← List.take_append_drop j ks]
  rw [cntL_app2]; omega
theorem soL_at : ∀ {ks : List T} {j : Nat} (h : j < ks.length), soL ks → soT ks[j]
  | x :: r, 0, _, h => by unfold soL at h; exact h.1
  | x :: r, j + 1, hj, h => by unfold soL at h; exact soL_at (ks := r) (by simpa using hj) h.2
theorem smL_at {m : Nat} : ∀ {ks : List T} {j : Nat} (h : j < ks.length), smL m ks → smT m ks[j]
  | x :: r, 0, _, h => by unfold smL at h; exact h.1
  | x :: r, j + 1, hj, h => by unfold smL at h; exact smL_at (ks := r) (by simpa using hj) h.2
theorem depL_at : ∀ {ks : List T} {j : Nat} (h : j < ks.length), depL [ks[j]] ≤ depL ks
  | x :: r, 0, _ => by cases x; simp [depL]; omega
  | x :: r, j + 1, hj => by
    have := depL_at (ks := r) (j := j) (by simpa using hj)
    cases x
    simp only [List.getElem_cons_succ]
    simp only [depL] at this ⊢
    omega
/-- The end of a round: the tree is printed. -/
def RelLi (p : Nat) (w : World) (bs : List UInt8) (k : Nat) (ks : List T) (i : Value) (wr : World) : Prop :=
  ∃ j : Nat, j ≤ ks.length ∧ i = .int .i64 (j : Int) ∧ Pn wr p (bs ++ 40 :: prK (ks.take j)) (k + cntL (ks.take j)) ∧ Old p w wr ∧ (bs ++ 40 :: prK (ks.take j)).length ≤ 262144
theorem put_false {p k : Nat} {bs : List UInt8} {ks : List T} {w w' : World} (j : Nat) (h : j < ks.length) (hb : 262144 < (bs ++ 40 :: prK (ks.take (j + 1))).length) (ho : Old p w w') : PutP p bs (40 :: (prK ks ++ [41])) k w (.returned (.bool false)) w' := by
  obtain ⟨Z, e⟩ := prK_more ks j h
  refine .inr ⟨?_, rfl, ho⟩
  rw [e]
  simp at hb ⊢; omega
set_option maxHeartbeats 6400000 in
set_option maxRecDepth 100000 in
theorem plist_of (p N : Nat) (ih : PTreeC p N) : PListC p N := by
  intro W0 w F ks A c d k bs hN hw hp hso hsm hr hF hk hd hl
  have HQ := Lib.hid (put_any p k bs ⟨#[40]⟩ w hp hl (by decide))
  have HZ := Lib.hid (fun w' bs' k' (h : Pn w' p bs' k') (h2 : bs'.length ≤ 262144) => put_any p k' bs' ⟨#[32]⟩ w' h h2 (by decide))
  have HY := Lib.hid (fun w' bs' k' (h : Pn w' p bs' k') (h2 : bs'.length ≤ 262144) => put_any p k' bs' ⟨#[41]⟩ w' h h2 (by decide))
  have HI := Lib.hid ih
  have HW := Lib.hid hw
  have HSO := Lib.hid hso
  have HSM := Lib.hid hsm
  have HR := Lib.hid hr
  have HF := Lib.hid hF
  have hln := len_le_cnt ks
  have hd2 : (d : Int) ≤ 32 := by omega
  have dd : decide ((32 : Int) < (d : Int)) = false := by rw [decide_eq_false_iff_not]; omega
  have hks : (ks.length : Int) ≤ 65536 := by omega
  clear ih hw hp hso hsm hr hF
  go_enter Tryd.func34, Tryd.ntmps34
  go_wp2_with fail
  refine (HQ.out).mono ?_
  rintro e w1 (⟨g1, rfl, g3, g4⟩ | ⟨g1, rfl, g4⟩)
  · have HP1 := Lib.hid g3
    have HO1 := Lib.hid g4
    have HL1 := Lib.hid g1
    clear g1 g3 g4
    go_wp2_with fail
    go_loopw [18] (fun i wr => RelLi p w bs k ks i wr) (fun i _ => ks.length - (intOf i).toNat)
    case atStart => exact ⟨0, Nat.zero_le _, rfl, by simpa [prK, cntL] using HP1.out, HO1.out, by have := HL1.out; simp [prK] at this ⊢; omega⟩
    case round =>
      obtain ⟨j, hj, rfl, hpn, hold, hlen⟩ := hrel
      have HP := Lib.hid hpn
      have HO := Lib.hid hold
      have HL := Lib.hid hlen
      have HWr := Lib.hid (HW.out.next hold)
      obtain ⟨_, _, lp⟩ := hpn.cells
      clear hpn hold hlen
      by_cases hlt : j < ks.length
      · obtain ⟨b, o, rfl, hbF, ht⟩ := HR.out.elem j hlt
        have HST := Lib.hid (prK_step ks j hlt)
        have HCT := Lib.hid (cntL_step ks j hlt)
        have HSo := Lib.hid (soL_at hlt HSO.out)
        have HSm := Lib.hid (smL_at hlt HSM.out)
        have hde := depL_at hlt
        have hct := cnt_get ks j hlt
        have hcm := cntL_most ks (j + 1)
        rw [HCT.out] at hcm
        have HPF := Lib.hid (fun w' (h : 262144 < (bs ++ 40 :: prK (ks.take (j + 1))).length) (ho : Old p w w') => put_false (k := k + cntL ks) j hlt h ho)
        generalize ks[j] = x at *
        obtain ⟨kd, s, n, kk⟩ := x
        unfold RdT at ht
        obtain ⟨A2, c2, hc2, h0, h1, h2, h3, hkk⟩ := ht
        rw [Nat.mul_comm 4 j] at h0 h1 h2 h3
        have a0 := HWr.out.fr.get h0
        have a1 := HWr.out.fr.get h1
        have a2 := HWr.out.fr.get h2
        have a3 := HWr.out.fr.get h3
        have HKK := Lib.hid hkk
        have lb := lt_of_cell a0
        have hfa : Fr wr (wr.alloc (.cells #[.int .i64 kd, .string s, .int .i64 n, .slice A2 kk.length c2] 38)) := (Fr.refl wr).alloc _
        have HFA := Lib.hid hfa
        have HBX := Lib.hid (Bk.new wr 38 #[.int .i64 kd, .string s, .int .i64 n, .slice A2 kk.length c2])
        have hjs : (j : Int) ≤ 65536 := by omega
        clear hfa hkk h0 h1 h2 h3
        by_cases hj0 : j = 0
        · subst hj0
          simp only [Nat.zero_mul, Nat.add_zero] at a0 a1 a2 a3
          have hh := HI.out W0 _ F kd n s kk A2 c2 d _ _ (by omega) (HWr.out.next (Old.fr HFA.out)) (HP.out.fr HFA.out) HSo.out HSm.out HKK.out HF.out (by omega) (by omega) HL.out
          have HT := Lib.hid hh
          clear hh
          go_wp2_with fail
          refine (HT.out).mono ?_
          rintro e w5 (⟨g1, rfl, g3, g4⟩ | ⟨g1, rfl, g4⟩)
          · have R := Lib.hid (show RelLi p w bs k ks (.int .i64 (((0 + 1 : Nat)) : Int)) w5 from ⟨0 + 1, by omega, rfl, by
              have e := HST.out
              simp only [if_true, List.nil_append] at e
              rw [e, HCT.out]
              simpa [Nat.add_assoc] using g3, (HO.out.trans (Old.fr HFA.out)).trans g4, by
              have e := HST.out
              simp only [if_true, List.nil_append] at e
              rw [e]; simp at g1 ⊢; omega⟩)
            clear g1 g3 g4
            go_wp2
            go_roundw
            case rel => exact R.out
            case measure => simp [intOf]; omega
          · have R := Lib.hid (HPF.out w5 (by
              have e := HST.out
              simp only [if_true, List.nil_append] at e
              rw [e]; simp at g1 ⊢; omega) ((HO.out.trans (Old.fr HFA.out)).trans g4))
            clear g1 g4
            go_wp2
            go_ret
            exact R.out
        · have dj : (0 : Int) < (j : Int) := by omega
          have HS := Lib.hid (HZ.out _ _ _ (HP.out.fr HFA.out) HL.out)
          have HJ0 := Lib.hid hj0
          clear hj0
          go_wp2_with fail
          refine (HS.out).mono ?_
          rintro e w4 (⟨g1, rfl, g3, g4⟩ | ⟨g1, rfl, g4⟩)
          · have hbx : Bk w4 wr.heap.size 38 #[.int .i64 kd, .string s, .int .i64 n, .slice A2 kk.length c2] := by
              have hb := HBX.out
              unfold Bk at hb ⊢
              rw [g4.kp wr.heap.size (by simp) (by omega) (fun cs' z e => by rw [hb] at e; injection e with e; injection e with _ e; cases e)]
              exact hb
            obtain ⟨r0, r1, r2, r3, _, _, _, _⟩ := hbx.four
            have hh := HI.out W0 w4 F kd n s kk A2 c2 d _ _ (by omega) ((HWr.out.next (Old.fr HFA.out)).next g4) g3 HSo.out HSm.out HKK.out HF.out (by omega) (by omega) (by simp at g1 ⊢; omega)
            have HT := Lib.hid hh
            have HO4 := Lib.hid ((HO.out.trans (Old.fr HFA.out)).trans g4)
            clear hh g1 g3 g4 hbx
            go_wp2_with fail
            refine (HT.out).mono ?_
            rintro e w5 (⟨g1, rfl, g3, g4⟩ | ⟨g1, rfl, g4⟩)
            · have R := Lib.hid (show RelLi p w bs k ks (.int .i64 ((j : Int) + 1)) w5 from ⟨j + 1, by omega, by go_num, by
                have e := HST.out
                rw [if_neg HJ0.out] at e
                rw [e, HCT.out]
                simpa [Nat.add_assoc] using g3, HO4.out.trans g4, by
                have e := HST.out
                rw [if_neg HJ0.out] at e
                rw [e]; simp at g1 ⊢; omega⟩)
              clear g1 g3 g4
              go_wp2
              go_roundw
              case rel => exact R.out
              case measure => simp [intOf]; omega
            · have R := Lib.hid (HPF.out w5 (by
                have e := HST.out
                rw [if_neg HJ0.out] at e
                rw [e]; simp at g1 ⊢; omega) (HO4.out.trans g4))
              clear g1 g4
              go_wp2
              go_ret
              exact R.out
          · have R := Lib.hid (HPF.out w4 (by
              have e := HST.out
              rw [if_neg HJ0.out] at e
              rw [e]; simp at g1 ⊢; omega) ((HO.out.trans (Old.fr HFA.out)).trans g4))
            clear g1 g4
            go_wp2
            go_ret
            exact R.out
      · obtain rfl : j = ks.length := by omega
        have HE := Lib.hid (HY.out _ _ _ HP.out HL.out)
        rw [List.take_of_length_le (Nat.le_refl _)] at HE
        clear hlt
        go_wp2_with fail
        refine (HE.out).mono ?_
        rintro e w5 (⟨g1, rfl, g3, g4⟩ | ⟨g1, rfl, g4⟩)
        · have R := Lib.hid (show PutP p bs (40 :: (prK ks ++ [41])) (k + cntL ks) w (.returned (.bool true)) w5 from .inl ⟨by simp at g1 ⊢; omega, rfl, by simpa using g3, HO.out.trans g4⟩)
          clear g1 g3 g4
          go_wp2
          go_ret
          exact R.out
        · have R := Lib.hid (show PutP p bs (40 :: (prK ks ++ [41])) (k + cntL ks) w (.returned (.bool false)) w5 from .inr ⟨by simp at g1 ⊢; omega, rfl, HO.out.trans g4⟩)
          clear g1 g4
          go_wp2
          go_ret
          exact R.out
  · have R := Lib.hid (show PutP p bs (40 :: (prK ks ++ [41])) (k + cntL ks) w (.returned (.bool false)) w1 from .inr ⟨by simp at g1 ⊢; omega, rfl, g4⟩)
    clear g1 g4
    go_wp2
    go_ret
    exact R.out
theorem ptree_all (p : Nat) : ∀ N, PTreeC p N
  | 0 => fun W0 w F kd n s ks A c d k bs hN => absurd hN (by simp [cntT])
  | N + 1 => ptree_of p N (plist_of p N (ptree_all p N))
end Go.Proofs.YtonlmennpbklgaaDoor
