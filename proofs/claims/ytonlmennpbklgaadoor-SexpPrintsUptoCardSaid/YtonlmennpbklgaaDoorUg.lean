/- The program's Print, whatever the trees. -/
import Derived.Test.YtonlmennpbklgaaDoorUf
import Derived.Test.YtonlmennpbklgaaDoorTj
import Derived.Test.YtonlmennpbklgaaDoorSx
namespace Go.Proofs.YtonlmennpbklgaaDoor
open Go.RowKit
set_option linter.unusedSimpArgs false
set_option linter.unusedVariables false

theorem prL_step (l : List T) (j : Nat) (h : j < l.length) : prL (l.take (j + 1)) = prL (l.take j) ++ (prT l[j] ++ [10]) := by
  have snoc : ∀ (a : List T) (t : T), prL (a ++ [t]) = prL a ++ (prT t ++ [10]) := by
    intro a t
    induction a with
    | nil => simp [prL]
    | cons x r ih => rw [List.cons_append]; simp only [prL]; rw [ih]; simp
  rw [List.take_succ_eq_append_getElem h, snoc]
theorem prL_more (l : List T) (j : Nat) : ∃ Z, prL l = prL (l.take j) ++ Z := by
  have app : ∀ (a b : List T), prL (a ++ b) = prL a ++ prL b := by
    intro a b
    induction a with
    | nil => simp [prL]
    | cons x r ih => rw [List.cons_append]; simp only [prL]; rw [ih]; simp
  exact ⟨prL (l.drop j), by rw [← app, List.take_append_drop]⟩
/-- All trees are within the bounds. -/
def InP (l : List T) (j : Nat) : Prop := cntL (l.take j) ≤ 65536 ∧ depL (l.take j) ≤ 32 ∧ (prL (l.take j)).length ≤ 262144
/-- What Print answers: the text, or an error. -/
def PrG (l : List T) (w : World) (e : Ending) (w' : World) : Prop :=
  (¬ soL l ∧ e = .returned (.tuple #[.string ⟨#[]⟩, .int .i64 31]) ∧ Fr w w') ∨ (soL l ∧ InP l l.length ∧ e = .returned (.tuple #[.string ⟨(prL l).toArray⟩, .int .i64 0]) ∧ Fr w w') ∨ (soL l ∧ ¬ InP l l.length ∧ e = .returned (.tuple #[.string ⟨#[]⟩, .int .i64 33]) ∧ Fr w w')
def RelPg (p : Nat) (w2 : World) (l : List T) (i : Value) (wr : World) : Prop :=
  ∃ j : Nat, j ≤ l.length ∧ i = .int .i64 (j : Int) ∧ Pn wr p (prL (l.take j)) (cntL (l.take j)) ∧ Old p w2 wr ∧ InP l j
theorem pn_zero (w : World) : Pn (w.alloc (.cells #[.pointer none, .slice none 0 0, .int .i64 0] 58)) w.heap.size [] 0 :=
  ⟨_, _, Bk.new w _ _, .inl rfl, World.ownsRow_nil _ _ _ _⟩
theorem InP.less {l : List T} {i j : Nat} (h : InP l j) (hij : i ≤ j) : InP l i := by
  obtain ⟨h1, h2, h3⟩ := h
  have e : (l.take j).take i = l.take i := by rw [List.take_take, Nat.min_eq_left hij]
  have a1 := cntL_most (l.take j) i
  have a2 := depL_most (l.take j) i
  obtain ⟨Z, a3⟩ := prL_more (l.take j) i
  rw [e] at a1 a2 a3
  refine ⟨by omega, by omega, ?_⟩
  have := congrArg List.length a3
  simp at this; omega
theorem inp_step {l : List T} {j : Nat} (h : j < l.length) (hj : InP l j) : InP l (j + 1) ↔ ((cntL (l.take j) + cntT l[j] ≤ 65536 ∧ 0 + depL [l[j]] ≤ 32) ∧ (prL (l.take j)).length + (prT l[j]).length + 1 ≤ 262144) := by
  obtain ⟨h1, h2, h3⟩ := hj
  unfold InP
  rw [cntL_step l j h, depL_step l j h, prL_step l j h]
  constructor
  · rintro ⟨a, b, c⟩
    refine ⟨⟨by omega, by omega⟩, ?_⟩
    simp at c ⊢; omega
  · rintro ⟨⟨a, b⟩, c⟩
    refine ⟨by omega, by omega, ?_⟩
    simp at c ⊢; omega
theorem pg_false {l : List T} {w w' : World} (j : Nat) (hj : j ≤ l.length) (hso : soL l) (h : ¬ InP l j) (hf : Fr w w') : PrG l w (.returned (.tuple #[.string ⟨#[]⟩, .int .i64 33])) w' :=
  .inr (.inr ⟨hso, fun h2 => h (h2.less hj), rfl, hf⟩)
set_option maxHeartbeats 6400000 in
set_option maxRecDepth 100000 in
theorem print_all (l : List T) (A : Option Addr) (c : Nat) (F : Nat → Prop) (w : World) (hsm : smL 1100000 l) (hcn : cntL l ≤ 1100000) (hr : RdL w F A l) (hF : ∀ b, F b → b < w.heap.size) (h5 : 5 < w.heap.size) (hla : Laid w) :
    Calls Tryd.prog 12 #[.slice A l.length c] w fun e w' => PrG l w e w' := by
  have HAS := Lib.hid (allsound_any l A c F w hsm hcn hr hF)
  have HSM := Lib.hid hsm
  have HR := Lib.hid hr
  have HF := Lib.hid hF
  have H5 := Lib.hid h5
  have HLA := Lib.hid hla
  have hln := len_le_cnt l
  have hll : (l.length : Int) ≤ 1100000 := by omega
  clear hsm hr hF h5 hla
  go_enter Tryd.func12, Tryd.ntmps12
  go_wp2_with fail
  refine (HAS.out).mono ?_
  rintro e w1 ⟨bb, rfl, hb, hf1⟩
  have HF1 := Lib.hid hf1
  have HPZ := Lib.hid (pn_zero w1)
  have HBZ := Lib.hid (Bk.new w1 58 #[.pointer none, .slice none 0 0, .int .i64 0])
  have HFA := Lib.hid ((Fr.refl w1).alloc (.cells #[.pointer none, .slice none 0 0, .int .i64 0] 58))
  have HLW := Lib.hid (show w.heap.size ≤ w1.heap.size from hf1.size)
  clear hf1
  cases bb with
  | false =>
    have R := Lib.hid (show PrG l w (.returned (.tuple #[.string ⟨#[]⟩, .int .i64 31])) w1 from .inl ⟨by simpa using hb, rfl, HF1.out⟩)
    clear hb
    go_wp2_with fail
    go_ret2
    exact R.out
  | true =>
  have HSO := Lib.hid (hb.1 rfl)
  clear hb
  by_cases hne : l = []
  · subst hne
    have HS := Lib.hid (string_nil w1.heap.size _ _ _ HBZ.out)
    go_wp2_with fail
    go_loopw [13] (fun i wr => i = .int .i64 0 ∧ wr = w1.alloc (.cells #[.pointer none, .slice none 0 0, .int .i64 0] 58)) (fun _ _ => 0)
    case atStart => exact ⟨rfl, rfl⟩
    case round =>
      obtain ⟨rfl, rfl⟩ := hrel
      go_wp2_with fail
      refine (HS.out).mono ?_
      rintro e w4 ⟨rfl, hold⟩
      have R := Lib.hid (show PrG [] w (.returned (.tuple #[.string ⟨#[]⟩, .int .i64 0])) w4 from .inr (.inl ⟨HSO.out, ⟨by simp [cntL], by simp [depL], by simp [prL]⟩, rfl, hold w (HF1.out.call HFA.out) HLW.out⟩))
      clear hold
      go_wp2
      go_ret2
      exact R.out
  · have HNE := Lib.hid (show prL l ≠ [] from by
      cases l with
      | nil => exact absurd rfl hne
      | cons t r => simp [prL])
    clear hne
    go_wp2_with fail
    go_loopw [13] (fun i wr => RelPg w1.heap.size (w1.alloc (.cells #[.pointer none, .slice none 0 0, .int .i64 0] 58)) l i wr) (fun i _ => l.length - (intOf i).toNat)
    case atStart => exact ⟨0, Nat.zero_le _, rfl, by simpa [prL, cntL] using HPZ.out, Old.refl _ _, by simp [cntL], by simp [depL], by simp [prL]⟩
    case round =>
      obtain ⟨j, hj, rfl, hpn, hold, hlen⟩ := hrel
      have HP := Lib.hid hpn
      have HO := Lib.hid hold
      have HL := Lib.hid hlen
      have HWr := Lib.hid (show Pw w wr w1.heap.size from ⟨hold.old w (HF1.out.call HFA.out) HLW.out, HLW.out, H5.out, HLA.out⟩)
      obtain ⟨_, _, lp⟩ := hpn.cells
      clear hpn hold hlen
      by_cases hlt : j < l.length
      · obtain ⟨b, o, rfl, hbF, ht⟩ := HR.out.elem j hlt
        have HST := Lib.hid (prL_step l j hlt)
        have HCT := Lib.hid (cntL_step l j hlt)
        have HWI := Lib.hid (inp_step hlt HL.out)
        have HSo := Lib.hid (soL_at hlt HSO.out)
        have HSm := Lib.hid (smL_at hlt HSM.out)
        have hct := cnt_get l j hlt
        have HPF := Lib.hid (fun w' (h : ¬ InP l (j + 1)) (ho : Fr w w') => pg_false (j + 1) (by omega) HSO.out h ho)
        generalize l[j] = x at *
        obtain ⟨kd, s, n, kk⟩ := x
        unfold RdT at ht
        obtain ⟨A2, c2, hc2, h0, h1, h2, h3, hkk⟩ := ht
        rw [Nat.mul_comm 4 j] at h0 h1 h2 h3
        have a0 := HWr.out.fr.get h0
        have a1 := HWr.out.fr.get h1
        have a2 := HWr.out.fr.get h2
        have a3 := HWr.out.fr.get h3
        have lb := lt_of_cell a0
        have hfa : Fr wr (wr.alloc (.cells #[.int .i64 kd, .string s, .int .i64 n, .slice A2 kk.length c2] 38)) := (Fr.refl wr).alloc _
        have HFB := Lib.hid hfa
        have hjs : (j : Int) ≤ 1100000 := by omega
        have hh := ptree_allg w1.heap.size (cntT (.node kd s n kk)) w _ F kd n s kk A2 c2 0 _ _ (Nat.le_refl _) (by omega) (HWr.out.next (Old.fr hfa)) (HP.out.fr hfa) HSo.out HSm.out hkk HF.out HL.out.1 (by omega) HL.out.2.2
        rw [show ((0 : Nat) : Int) = 0 from rfl] at hh
        have HT := Lib.hid hh
        clear hfa hkk h0 h1 h2 h3 hh
        go_wp2_with fail
        refine (HT.out).mono ?_
        rintro e w5 (⟨g0, g1, rfl, g3, g4⟩ | ⟨g1, rfl, g4⟩)
        · have HQ := Lib.hid (put_any w1.heap.size _ _ ⟨#[10]⟩ w5 g3 (by simpa using g1) (by decide))
          have HO5 := Lib.hid ((HO.out.trans (Old.fr HFB.out)).trans g4)
          have HG0 := Lib.hid g0
          clear g0 g1 g3 g4
          go_wp2_with fail
          refine (HQ.out).mono ?_
          rintro e w6 (⟨g1, rfl, g3, g4⟩ | ⟨g1, rfl, g4⟩)
          · have R := Lib.hid (show RelPg w1.heap.size (w1.alloc (.cells #[.pointer none, .slice none 0 0, .int .i64 0] 58)) l (.int .i64 ((j : Int) + 1)) w6 from ⟨j + 1, by omega, by go_num, by
              rw [HST.out, HCT.out]
              simpa [Nat.add_assoc] using g3, HO5.out.trans g4, HWI.out.2 ⟨HG0.out, by simp at g1; omega⟩⟩)
            clear g1 g3 g4
            go_wp2
            go_roundw
            case rel => exact R.out
            case measure => simp [intOf]; omega
          · have R := Lib.hid (HPF.out w6 (fun h => by have := (HWI.out.1 h).2; simp at g1; omega) ((HO5.out.trans g4).old w (HF1.out.call HFA.out) HLW.out))
            clear g1 g4
            go_wp2
            go_ret2
            exact R.out
        · have R := Lib.hid (HPF.out w5 (fun h => g1 ⟨(HWI.out.1 h).1, by have := (HWI.out.1 h).2; omega⟩) (((HO.out.trans (Old.fr HFB.out)).trans g4).old w (HF1.out.call HFA.out) HLW.out))
          clear g1 g4
          go_wp2
          go_ret2
          exact R.out
      · obtain rfl : j = l.length := by omega
        have hP := HP.out
        have hL := HL.out
        have hL3 := HL.out.2.2
        rw [List.take_of_length_le (Nat.le_refl _)] at hP hL3
        have HS := Lib.hid (string_some w1.heap.size _ _ wr hP HNE.out (by omega))
        clear hlt hP hL3 hL
        go_wp2_with fail
        refine (HS.out).mono ?_
        rintro e w4 ⟨rfl, hold⟩
        have R := Lib.hid (show PrG l w (.returned (.tuple #[.string ⟨(prL l).toArray⟩, .int .i64 0])) w4 from .inr (.inl ⟨HSO.out, HL.out, rfl, hold w (HO.out.old w (HF1.out.call HFA.out) HLW.out) HLW.out⟩))
        clear hold
        go_wp2
        go_ret2
        exact R.out
end Go.Proofs.YtonlmennpbklgaaDoor
