/- The document's Load. -/
import Derived.Test.YtelfokoibmpdlaaJb
import Derived.Test.YtelfokoibmpdlaaMf
namespace Go.Proofs.Ytelfokoibmpdlaa
open Go.RowKit
set_option linter.unusedSimpArgs false
set_option linter.unusedVariables false

theorem ld_eq {l : List Rg} (hg : Good l) (a N : Nat) (hN1 : 1 ≤ N) (hN8 : N ≤ 8) : ldN l a (N : Int) = if fulB l a N 0 then some (nmJ l a N 0) else none := by
  have hok : hldB l a (N : Int) 4 = fulB l a N 0 := by
    unfold hldB fulB
    rw [Int.toNat_natCast, from_run hg]
    simp only [Nat.add_zero, Nat.sub_zero]
    have e1 : (decide ((1 : Int) ≤ (N : Int)) && decide ((N : Int) ≤ 8) && (decide ((0 : Int) ≤ 4) && decide ((4 : Int) ≤ 7))) = true := by simp; omega
    rw [e1, Bool.true_and]
    by_cases q : (runB (cel l 4) a N).length = N
    · rw [decide_eq_true q, decide_eq_true]; omega
    · rw [decide_eq_false q, decide_eq_false]; omega
  unfold ldN nmJ
  rw [hok, Int.toNat_natCast, from_run hg]; rfl
theorem ld_out (l : List Rg) (a : Nat) {n : Int} (h : ¬ (1 ≤ n ∧ n ≤ 8)) : ldN l a n = none := by
  unfold ldN hldB
  rw [if_neg]
  simp only [Bool.and_eq_true, decide_eq_true_eq]
  rintro ⟨⟨⟨q1, q2⟩, _⟩, _⟩
  exact h ⟨q1, q2⟩
def RelRl (lp : List Rg) (a N : Nat) (w : World) (y z : Value) (wr : World) : Prop := ∃ (k : Int) (m : Nat), z = .int .i64 k ∧ k + 1 = (m : Int) ∧ m ≤ N ∧ y = .int .u64 (nmJ lp a N m : Int) ∧ fulB lp a N m = true ∧ Fr w wr
set_option maxHeartbeats 6400000 in
set_option maxRecDepth 100000 in
theorem rload_any {lw lp : List Rg} (hL : Lnk lw lp) (A : Option Addr) (c : Nat) (w : World) (hA : RowOf RgAt 3 w A lw) (hlen : lw.length ≤ 64) (hsm : ∀ r ∈ lw, r.bs.length ≤ 67108864) (a : Nat) (ha : a < 18446744073709551616) (n : Int) :
    Calls Try.prog 13 #[.slice A lw.length c, .int .u64 (a : Int), .int .i64 n] w fun e w' => e = .returned (.tuple #[.int .u64 (((ldN lp a n).getD 0 : Nat) : Int), .bool (ldN lp a n).isSome]) ∧ Fr w w' := by
  by_cases hin : 1 ≤ n ∧ n ≤ 8
  · obtain ⟨N, rfl⟩ : ∃ N : Nat, n = (N : Int) := ⟨n.toNat, by omega⟩
    have hN1 : 1 ≤ N := by omega
    have hN8 : N ≤ 8 := by omega
    have hi1 : (1 : Int) ≤ (N : Int) := by omega
    have hi8 : (N : Int) ≤ 8 := by omega
    have HLD := Lib.hid (ld_eq hL.good a N hN1 hN8)
    have HA := Lib.hid hA
    have HPL := Lib.hid (fun (w1 : World) (k : Fr w w1) (x : Nat) (hx : x < 18446744073709551616) => place_any A lw c w1 (hA.fr fun _ _ _ h => h.fr k) hlen hsm x hx 4 (.inr (.inr rfl)))
    have HL := Lib.hid hL
    have hst : RelRl lp a N w (.int .u64 0) (.int .i64 ((N : Int) - 1)) w := ⟨(N : Int) - 1, N, rfl, by omega, Nat.le_refl _, by simp [nmJ, runB, leN], by simp [fulB, runB], Fr.refl _⟩
    have HST := Lib.hid hst
    clear hA hL hin hst hsm
    go_enter Try.func13, Try.ntmps13
    go_wp2
    go_loopw [8, 9] (fun y z wr => RelRl lp a N w y z wr) (fun _ z _ => (intOf z + 1).toNat)
    case atStart => exact HST.out
    case round =>
      obtain ⟨k, m, rfl, hkm, hmN, rfl, hful, hf⟩ := hrel
      have HF := Lib.hid hf
      by_cases hk : 0 ≤ k
      · obtain ⟨j, rfl⟩ : ∃ j : Nat, k = (j : Int) := ⟨k.toNat, by omega⟩
        obtain rfl : m = j + 1 := by omega
        have hjN : j < N := by omega
        obtain ⟨a', ha'⟩ : ∃ a', (a + j) % 18446744073709551616 = a' := ⟨_, rfl⟩
        have ha2 : a' < 18446744073709551616 := by omega
        have hwr : IntKind.u64.wrap ((a : Int) + (j : Int)) = (a' : Int) := by
          rw [wrap64]; omega
        have HP := Lib.hid (HPL.out wr hf a' ha2)
        clear hk hkm
        by_cases hb : a + j < 18446744073709551616
        · obtain rfl : a' = a + j := by omega
          have hwr2 : IntKind.u64.wrap ((a : Int) + (j : Int)) = (a : Int) + (j : Int) := by rw [hwr]; omega
          clear hwr
          cases hpc : plc lw 4 (a + j) with
          | none =>
            have hno := plc_none HL.out (.inr (.inr rfl)) hpc
            have HN := Lib.hid (show ldN lp a (N : Int) = none by rw [HLD.out, fulB_none hjN hno]; rfl)
            rw [hpc] at HP
            clear hno hf hful
            go_wp2_with (go_at_call 29; refine HP.out.mono ?_; rintro e w5 ⟨rfl, hf5⟩; have HF5 := Lib.hid hf5; clear hf5; simp only [plcV])
            go_ret2
            exact ⟨by rw [HN.out]; rfl, HF.out.call HF5.out⟩
          | some i =>
            obtain ⟨hi, q1, q2, q3⟩ := plc_some HL.out (.inr (.inr rfl)) hpc
            rw [hpc] at HP
            have htp : (lw[i]).top = (lw[i]).pl + (lw[i]).bs.length := rfl
            have hidx : a + j - (lw[i]).pl < (lw[i]).bs.length := by omega
            rw [List.getElem?_eq_getElem hidx] at q3
            obtain ⟨h1, h2⟩ := fulB_some hjN q3 hful
            have h3 := nmJ_lt HL.out.good a N j hN8
            have hD : lw.getD i default = lw[i] := by simp [List.getD, hi]
            obtain ⟨b, o, rfl, hx⟩ := (HA.out.fr (fun _ _ _ h => h.fr hf)).at hi
            rw [Nat.mul_comm 3 i] at hx
            obtain ⟨s, hs, c0, c1, c2⟩ := hx
            obtain ⟨g, go, hsa, hgl, hbc⟩ := hs.rd (show 0 < (lw[i]).bs.length by omega)
            have hbcx := hbc _ hidx
            rw [hsa] at c2
            unfold u8n at hbcx
            have hbx := hs.num.bys _ (List.getElem_mem hidx)
            simp only at hbcx hbx
            clear hbc hs
            generalize (lw[i]).bs[a + j - (lw[i]).pl] = x at *
            have HV := Lib.hid (show plcV lw (a + j) (some i) = .tuple #[.int .i64 (i : Int), .int .i64 ((a + j - (lw[i]).pl : Nat) : Int)] by simp only [plcV]; rw [hD])
            rw [HV.out] at HP
            generalize (lw[i]).bs.length = n at *
            generalize a + j - (lw[i]).pl = d at *
            have H1 := Lib.hid h1
            have H2 := Lib.hid h2
            rw [h2] at h3
            generalize nmJ lp a N (j + 1) = v at *
            have hii : (i : Int) < (lw.length : Int) := by omega
            have hdi : (d : Int) < (n : Int) := by omega
            have e2 := fun ww (kk : Fr wr ww) => kk.get c2
            have eb := fun ww (kk : Fr wr ww) => kk.get hbcx
            have E2 := Lib.hid e2
            have EB := Lib.hid eb
            clear hf hful h1 h2 q3 hD htp c0 c1 c2 hbcx e2 eb HV hpc hsa
            go_wp2_with (go_at_call 29; refine HP.out.mono ?_; rintro e w5 ⟨rfl, hf5⟩; have HF5 := Lib.hid hf5; have d2 := E2.out _ hf5; have db := EB.out _ hf5; clear hf5)
            go_roundw
            case rel => exact ⟨(j : Int) - 1, j, rfl, by omega, by omega, congrArg (Value.int .u64) (by rw [H2.out]; omega), H1.out, HF.out.call HF5.out⟩
            case measure => simp [intOf]
        · have hcb := cel_over HL.out.good 4 (show 18446744073709551616 ≤ a + j by omega)
          have HN := Lib.hid (show ldN lp a (N : Int) = none by rw [HLD.out, fulB_none hjN hcb]; rfl)
          have hlt : a' < a := by omega
          have hlti : (a' : Int) < (a : Int) := by omega
          clear hcb hf hful ha'
          cases hpc : plc lw 4 a' with
          | none =>
            rw [hpc] at HP
            go_wp2_with (go_at_call 29; refine HP.out.mono ?_; rintro e w5 ⟨rfl, hf5⟩; have HF5 := Lib.hid hf5; clear hf5; simp only [plcV])
            go_ret2
            exact ⟨by rw [HN.out]; rfl, HF.out.call HF5.out⟩
          | some i =>
            rw [hpc] at HP
            go_wp2_with (go_at_call 29; refine HP.out.mono ?_; rintro e w5 ⟨rfl, hf5⟩; have HF5 := Lib.hid hf5; clear hf5; simp only [plcV])
            go_ret2
            exact ⟨by rw [HN.out]; rfl, HF.out.call HF5.out⟩
      · obtain rfl : m = 0 := by omega
        have HN := Lib.hid (show ldN lp a (N : Int) = some (nmJ lp a N 0) by rw [HLD.out, hful]; rfl)
        clear hful hf
        go_wp2
        go_ret2
        exact ⟨by rw [HN.out]; rfl, HF.out⟩
  · have HN := Lib.hid (ld_out lp a hin)
    clear hA hL hsm
    by_cases q1 : 1 ≤ n
    · have q2 : (8 : Int) < n := by omega
      go_enter Try.func13, Try.ntmps13
      go_wp2
      go_ret2
      exact ⟨by rw [HN.out]; rfl, Fr.refl _⟩
    · go_enter Try.func13, Try.ntmps13
      go_wp2
      go_ret2
      exact ⟨by rw [HN.out]; rfl, Fr.refl _⟩
end Go.Proofs.Ytelfokoibmpdlaa
