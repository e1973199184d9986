/- The reader's trees. -/
import Derived.Test.YtonlmennpbklgaaDoorSv
import Derived.BigGuardPart
namespace Go.Proofs.YtonlmennpbklgaaDoor
open Go.RowKit
set_option linter.unusedSimpArgs false
set_option linter.unusedVariables false

theorem nb_of {c : UInt8} {r : List UInt8} (h : skN false (c :: r) = 0) : Nb c := by
  by_cases h1 : c.toNat = 32 ∨ c.toNat = 10
  · rw [skN, if_pos h1] at h; omega
  · by_cases h2 : c.toNat = 59
    · rw [skN, if_neg h1, if_pos h2] at h; omega
    · exact ⟨h1, h2⟩
theorem Wr.grown {p : Nat} {a b c : World} {row : Option Nat} (h : Wr p a b) (hg : b.grownBy c row) (hr : ∀ k, row = some k → a.heap.size ≤ k) : Wr p a c :=
  ⟨hg.os.trans h.os, hg.tape.trans h.tape, hg.output.trans h.output, Nat.le_trans h.size hg.size, fun i hi hn => (hg.block i (Nat.lt_of_lt_of_le hi h.size) (fun e => by have := hr i e.symm; omega)).trans (World.grownBy.block h i hi hn)⟩
theorem Pa.grown {p i k : Nat} {s : ByteArray} {b c : World} {row : Option Nat} (h : Pa b p s i k) (hg : b.grownBy c row) (hr : row ≠ some p) : Pa c p s i k := by
  have hl := Bk.lt h
  unfold Pa Bk at *
  rw [hg.block p hl (fun e => hr e.symm)]; exact h
def TrRel (p : Nat) (s : ByteArray) (d i k : Nat) (w : World) (g : Nat) (v : Value) (wr : World) : Prop :=
  ∃ (j k' : Nat) (l : List T), g = s.size - j ∧ l.length ≤ j ∧ i ≤ j ∧ j ≤ s.size ∧ skN false (s.data.toList.drop j) = 0 ∧ k' ≤ 65536 ∧ Pa wr p s j k' ∧ Trs w wr v l ∧ Wr p w wr ∧
    ∀ rest : List (List T), rest.length = d → run s.data.toList i ([] :: rest) k = run s.data.toList j (l :: rest) k'
theorem news4 (w : World) (x0 x1 x2 x3 : Value) (j : Nat) (u : Value) (h : [x0, x1, x2, x3][j]? = some u) : (w.alloc (.cells #[x0, x1, x2, x3] 38)).cell? ((⟨w.heap.size, 0, none⟩ : Addr).add j) = some u := by
  have e := Bk.cell (Bk.new w 38 #[x0, x1, x2, x3]) j
  rw [show (⟨w.heap.size, 0, none⟩ : Addr).add j = ⟨w.heap.size, j, none⟩ by unfold Addr.add; by_cases h0 : j = 0 <;> simp [h0], e]
  simpa using h
theorem sk_zero (s : ByteArray) (i : Nat) : skN false (s.data.toList.drop (i + skN false (s.data.toList.drop i))) = 0 := by
  have h := skN_idem false (s.data.toList.drop i)
  rwa [List.drop_drop] at h
theorem sk_le (s : ByteArray) (i : Nat) (hi : i ≤ s.size) : i + skN false (s.data.toList.drop i) ≤ s.size := by
  have h := skN_le false (s.data.toList.drop i)
  simp at h; omega
set_option maxHeartbeats 6400000 in
set_option maxRecDepth 100000 in
theorem trees_of (p N : Nat) (s : ByteArray) (hs : s.size ≤ 262144) (hp5 : 5 < p) (ht : TreeC p s N) : TreesC p s N := by
  intro d i k w hi hN hd hk hp hla
  have HT := Lib.hid ht
  have HSK := Lib.hid (fun i k w h hi => skip_any p i k s w h hi (by unfold maxLen; omega))
  have HPL := Lib.hid (Bk.lt hp)
  have HP := Lib.hid hp
  have HLA := Lib.hid hla
  have HP5 := Lib.hid hp5
  have HR0 := Lib.hid (fun st => run_at s.data.toList i st k (by simpa using hi))
  have HSZ := Lib.hid (sk_zero s)
  have HSL := Lib.hid (sk_le s)
  have HK := Lib.hid hk
  have HN := Lib.hid hN
  have HD := Lib.hid hd
  have hd3 : (d : Int) ≤ 32 := by omega
  clear ht hp hla hp5 hk hN hd
  go_enter Tryd.func15, Tryd.ntmps15
  go_wp2_with fail
  refine (HSK.out i k w HP.out hi).mono ?_
  rintro e w1 ⟨rfl, hpa, hw⟩
  have HPA := Lib.hid hpa
  have HW := Lib.hid hw
  clear hpa hw
  go_wp2_with fail
  go_loopg [5] (s.size - (i + skN false (s.data.toList.drop i))) (fun g v wr => TrRel p s d i k w g v wr)
  case atStart => exact ⟨_, k, [], rfl, Nat.zero_le _, by omega, HSL.out i hi, HSZ.out i, HK.out, HPA.out, Trs.nil _ _, HW.out, fun rest _ => HR0.out _⟩
  case round =>
    obtain ⟨j, k', l, hg, hlj, hij, hjs, hsk, hk', hpa', htr, hw', hrun⟩ := hrel
    have HG := Lib.hid hg
    have HS0 := Lib.hid hsk
    have HK' := Lib.hid hk'
    have HPJ := Lib.hid hpa'
    have HTR := Lib.hid htr
    have HWJ := Lib.hid hw'
    have HRUN := Lib.hid hrun
    obtain ⟨c0, c1, c2, f1, f2⟩ := hpa'.three
    clear hg hsk hk' hpa' htr hw' hrun HPA HW HP
    by_cases hlt : j < s.size
    · go_wp2_with fail
      go_quiet (fail)
      go_wp2_with fail
      · have hfq : Fr wr (wr.drewN nq) := (Fr.refl wr).drewN _
        have HPQ := Lib.hid (HPJ.out.fr hfq)
        have HTQ := Lib.hid (HTR.out.fr hfq)
        have HWQ := Lib.hid (HWJ.out.fr hfq)
        have t41 : ((s[j].toNat : Int) != 41) = true := by assumption
        have h41 : s[j].toNat ≠ 41 := by simp at t41; omega
        have hnb : Nb s[j] := nb_of (r := s.data.toList.drop (j + 1)) (by rw [← drop_at s j hlt]; exact HS0.out)
        have HC := Lib.hid (fun h1 h2 h3 h4 h5 => HT.out d j k' (wr.drewN nq) hlt h1 h2 h3 h4 h5 hnb h41)
        generalize wr.drewN nq = wq at *
        clear hfq c0 c1 c2 f1 f2 h41 hnb t41 HPJ HTR HWJ
        refine (HC.out (by have := HN.out; omega) HD.out HK'.out HPQ.out (HLA.out.wr HWQ.out HP5.out)).mono ?_
        rintro e w6 (⟨a, er, he, hw6, hr⟩ | ⟨kd, sd, nd, ks, A, c, j2, k2, rfl, hc, hrd, hpa6, hij2, hjs2, hk2, hw6, hr⟩)
        · unfold PanW at he
          subst he
          have HW6 := Lib.hid (HWQ.out.call hw6)
          have HR := Lib.hid (show ∀ rest : List (List T), rest.length = d → run s.data.toList i ([] :: rest) k = .err a er from fun rest h => (HRUN.out rest h).trans (hr l rest h))
          clear hw6 hr
          go_wp2
          exact ⟨rfl, .inl ⟨a, er, rfl, HW6.out, HR.out⟩⟩
        · obtain ⟨vs0, ho0, hf0⟩ := HTQ.out
          have h5 := fun g (h : Value.ownBlock _ = some g) => (own_lt ho0 h).2
          obtain ⟨vs, ho, hf⟩ := HTQ.out.wr hw6 HPL.out
          have HO := Lib.hid ho
          have HF := Lib.hid hf
          have H5 := Lib.hid h5
          have HOB := Lib.hid (fun g (h : Value.ownBlock _ = some g) => (own_lt ho h).1)
          have HW6 := Lib.hid (HWQ.out.call hw6)
          have HRD := Lib.hid hrd
          have HPA6 := Lib.hid hpa6
          have HC2 := Lib.hid hc
          have HJ2 := Lib.hid hjs2
          have HK2 := Lib.hid hk2
          have HR := Lib.hid (show ∀ rest : List (List T), rest.length = d → run s.data.toList i ([] :: rest) k = run s.data.toList j2 ((l ++ [.node kd sd nd ks]) :: rest) k2 from fun rest h => (HRUN.out rest h).trans (hr l rest h))
          have HLJ := Lib.hid hlj
          clear hw6 hr hrd hpa6 hc hk2 ho hf h5 ho0 hf0 HTQ HPQ
          go_wp2_with (first
            | (at_builtin
               obtain ⟨iT, hiT, hz0, hz1, hz2⟩ := info_parts Tryd.infoTree
               refine wpList_append_own_at _ rfl (.tmp 33) (.tmp 37) 23 rfl w.heap.size 38 iT _ 4 56 Tryd.underlying23 hiT hz0 hz1 hz2 rfl (by decide) _ l.length vs rfl (HO.out.alloc _) ⟨w6.heap.size, 0, none⟩ 1 1 [.int .i64 kd, .string sd, .int .i64 nd, .slice A ks.length c] rfl rfl (news4 w6 _ _ _ _) (by simp; exact ⟨rfl, rfl, rfl, rfl⟩) (by unfold maxLen; omega) (by omega) (by have := HW6.out.size; simp; omega) ?_
               intro v' w7 hn hgr hnil hbb
               have HT7 := Lib.hid (Trs.push HO.out HF.out H5.out HWQ.out.size HC2.out HRD.out hn hgr hbb)
               have HW7 := Lib.hid ((HW6.out.alloc _).grown hgr HOB.out)
               have HP7 := Lib.hid (Pa.grown (HPA6.out.fr ((Fr.refl _).alloc _)) hgr (fun e => by have := HOB.out p e; have := HPL.out; omega))
               clear hiT hz0 hz1 hz2 hn hgr hbb hnil))
          refine (HSK.out j2 k2 w7 HP7.out HJ2.out).mono ?_
          rintro e w8 ⟨rfl, hpa8, hw8⟩
          have HP8 := Lib.hid hpa8
          have HW8 := Lib.hid (HW7.out.call hw8)
          have HT8 := Lib.hid (HT7.out.wr hw8 HPL.out)
          clear hpa8 hw8
          go_wp2_with fail
          have hsl := HSL.out j2 HJ2.out
          go_roundg (s.size - (j2 + skN false (s.data.toList.drop j2)))
          case measure => have := HG.out; omega
          case rel => exact ⟨_, k2, _, rfl, by simp; have := HLJ.out; omega, by omega, hsl, HSZ.out j2, HK2.out, HP8.out, HT8.out, HW8.out, fun rest h => (HR.out rest h).trans (run_at _ _ _ _ (by simpa using HJ2.out))⟩
      · have hfq : Fr wr (wr.drewN nq) := (Fr.refl wr).drewN _
        have HPQ := Lib.hid (HPJ.out.fr hfq)
        have HTQ := Lib.hid (HTR.out.fr hfq)
        have HWQ := Lib.hid (HWJ.out.fr hfq)
        have t41 : ((s[j].toNat : Int) != 41) = false := by assumption
        have h41 : s[j].toNat = 41 := by simp at t41; omega
        have HD41 := Lib.hid (drop_at s j hlt)
        have H41 := Lib.hid h41
        obtain ⟨c0', c1', c2', f1', f2'⟩ := HPQ.out.three
        generalize wr.drewN nq = wq at *
        clear hfq c0 c1 c2 f1 f2 h41 t41 HPJ HTR HWJ
        have e1 : ((j : Int) == (s.size : Int)) = false := by rw [beq_eq_false_iff_ne]; omega
        by_cases hd0 : d = 0
        · subst hd0
          go_quiet (fail)
          go_wp2
          refine ⟨rfl, .inl ⟨j, 31, rfl, (HWQ.out.drewN _), fun rest h => ?_⟩⟩
          obtain rfl : rest = [] := List.eq_nil_of_length_eq_zero h
          exact (HRUN.out [] rfl).trans (run_cls_top HD41.out H41.out)
        · have e2 : ((d : Int) == 0) = false := by rw [beq_eq_false_iff_ne]; omega
          obtain ⟨A, c, hv, hlc, hrd⟩ := HTQ.out.close
          subst hv
          have HRD := Lib.hid hrd
          have HLC := Lib.hid hlc
          clear hrd hlc
          go_quiet (fail)
          go_wp2
          go_ret
          refine .inr ⟨l, A, c, rfl, HLC.out, RdL.mono (fun b hb => ⟨hb.1, by simp; exact hb.2⟩) (fun b hb => (Below.heap_setCell _ _ _ _ (by have := hb.1; have := HPL.out; simp; omega)).trans (((Fr.refl wq).drewN _).block b hb.2)) HRD.out, (HWQ.out.drewN _).setp 1 _, fun h => absurd h hd0, fun _ => ⟨j + 1, k', (HPQ.out.fr ((Fr.refl wq).drewN _)).seti (j + 1), by omega, by omega, HK'.out, fun par rest h => (HRUN.out (par :: rest) (by simp; omega)).trans (run_cls HD41.out H41.out)⟩⟩
    · obtain rfl : j = s.size := by omega
      have hgd : decide ((s.size : Int) < (s.size : Int)) = false := by simp
      go_wp2_with fail
      go_quiet (fail)
      go_wp2_with fail
      have hfq : Fr wr (wr.drewN nq) := (Fr.refl wr).drewN _
      have HPQ := Lib.hid (HPJ.out.fr hfq)
      have HTQ := Lib.hid (HTR.out.fr hfq)
      have HWQ := Lib.hid (HWJ.out.fr hfq)
      obtain ⟨c0', c1', c2', f1', f2'⟩ := HPQ.out.three
      generalize wr.drewN nq = wq at *
      clear hfq c0 c1 c2 f1 f2 HPJ HTR HWJ
      have hll : s.size = s.data.toList.length := by simp
      have HLL := Lib.hid hll
      clear hll
      by_cases hd0 : d = 0
      · subst hd0
        obtain ⟨A, c, hv, hlc, hrd⟩ := HTQ.out.close
        subst hv
        have HRD := Lib.hid hrd
        have HLC := Lib.hid hlc
        clear hrd hlc
        go_quiet (fail)
        go_wp2
        go_ret
        refine .inr ⟨l, A, c, rfl, HLC.out, RdL.mono (fun b hb => ⟨hb.1, by simp; exact hb.2⟩) (fun b hb => (Below.heap_setCell _ _ _ _ (by have := hb.1; have := HPL.out; simp; omega)).trans (((Fr.refl wq).drewN _).block b hb.2)) HRD.out, (HWQ.out.drewN _).setp 1 _, fun _ => (HRUN.out [] rfl).trans (by rw [HLL.out]; exact run_end l), fun h => absurd h (by omega)⟩
      · have e2 : ((d : Int) == 0) = false := by rw [beq_eq_false_iff_ne]; omega
        go_quiet (fail)
        go_wp2
        refine ⟨rfl, .inl ⟨s.size, 31, rfl, (HWQ.out.drewN _), fun rest h => ?_⟩⟩
        rcases rest with _ | ⟨b, rest⟩
        · exact absurd h (by simp; omega)
        · exact (HRUN.out _ h).trans (by rw [HLL.out]; exact run_end_open l b rest)
end Go.Proofs.YtonlmennpbklgaaDoor
