/- MemJoins answers true. -/
import Derived.Test.YtelfokoibmpdlaaMr
namespace Go.Proofs.Ytelfokoibmpdlaa
open Go.RowKit
set_option linter.unusedSimpArgs false
set_option linter.unusedVariables false

theorem cel_beyond {l : List Rg} (hg : Good l) (q : Int) {a : Nat} (ha : 18446744073709551616 ≤ a) : cel l q a = none := by
  unfold cel
  cases hf : l.find? (fun r => decide (r.pl ≤ a ∧ a < r.top)) with
  | none => rfl
  | some r =>
    have h1 := List.find?_some hf
    have h2 := (hg.ok r (List.mem_of_find?_eq_some hf)).top
    simp only [decide_eq_true_eq] at h1
    omega
/-- All from m on are there. -/
def fullB (l : List Rg) (a N m : Nat) : Bool := decide ((runB (cel l 4) (a + m) (N - m)).length = N - m)
def numJ (l : List Rg) (a N m : Nat) : Nat := leN (runB (cel l 4) (a + m) (N - m))
def RelJ (l : List Rg) (a N : Nat) (w : World) (x y z : Value) (wr : World) : Prop := ∃ (k : Int) (m wt : Nat), z = .int .i64 k ∧ k + 1 = (m : Int) ∧ m ≤ N ∧ x = .bool (fullB l a N m) ∧ y = .int .u64 (wt : Int) ∧ wt < 18446744073709551616 ∧ (fullB l a N m = true → wt = numJ l a N m) ∧ Fr w wr
theorem full_none {l : List Rg} {a N m : Nat} (hm : m < N) (h : cel l 4 (a + m) = none) : fullB l a N m = false := by
  unfold fullB; rw [runB_none h]; simp; omega
theorem full_some {l : List Rg} {a N m b : Nat} (hm : m < N) (h : cel l 4 (a + m) = some b) : fullB l a N m = fullB l a N (m + 1) ∧ numJ l a N m = b + 256 * numJ l a N (m + 1) := by
  unfold fullB numJ
  have e : runB (cel l 4) (a + m) (N - m) = b :: runB (cel l 4) (a + (m + 1)) (N - (m + 1)) := by
    rw [show N - m = (N - (m + 1)) + 1 by omega]
    conv => lhs; unfold runB
    rw [h]; rfl
  rw [e]
  refine ⟨?_, rfl⟩
  simp only [List.length_cons]
  by_cases q : (runB (cel l 4) (a + (m + 1)) (N - (m + 1))).length = N - (m + 1)
  · rw [decide_eq_true q, decide_eq_true]; omega
  · rw [decide_eq_false q, decide_eq_false]; omega
theorem numJ_lt {l : List Rg} (hg : Good l) (a N m : Nat) (hN : N ≤ 8) : numJ l a N m < 256 ^ (N - m) := by
  have h1 := leN_lt (runB_bys hg 4 (a + m) (N - m))
  have h2 := runB_length_le (cel l 4) (N - m) (a + m)
  exact Nat.lt_of_lt_of_le h1 (Nat.pow_le_pow_right (by decide) h2)
theorem cel_byte {l : List Rg} (hg : Good l) {q : Int} {a b : Nat} (h : cel l q a = some b) : b < 256 := by
  have := runB_bys hg q a 1
  unfold runB at this
  rw [h] at this
  exact this b (by simp)
theorem step_j {l : List Rg} (hg : Good l) {a N j a' wt : Nat} (hj : j < N) (hN : N ≤ 8) (ha : a < 18446744073709551616) (ha' : (a + j) % 18446744073709551616 = a') (hnum : fullB l a N (j + 1) = true → wt = numJ l a N (j + 1)) :
    (fullB l a N (j + 1) && ((cel l 4 a').isSome && decide (a ≤ a'))) = fullB l a N j ∧ ∃ w2 : Nat, IntKind.u64.wrap (IntKind.u64.wrap ((wt : Int) * 256) + (((cel l 4 a').getD 0 : Nat) : Int)) = (w2 : Int) ∧ w2 < 18446744073709551616 ∧ (fullB l a N j = true → w2 = numJ l a N j) := by
  have hex : ∃ w2 : Nat, IntKind.u64.wrap (IntKind.u64.wrap ((wt : Int) * 256) + (((cel l 4 a').getD 0 : Nat) : Int)) = (w2 : Int) ∧ w2 = ((wt * 256) % 18446744073709551616 + (cel l 4 a').getD 0) % 18446744073709551616 := by
    refine ⟨_, ?_, rfl⟩
    rw [wrap64, wrap64]; omega
  obtain ⟨w2, hw2, hw3⟩ := hex
  have hlt : w2 < 18446744073709551616 := by omega
  by_cases hb : a + j < 18446744073709551616
  · have e : a' = a + j := by omega
    subst e
    have hd : decide (a ≤ a + j) = true := by simp
    rw [hd, Bool.and_true]
    cases hc : cel l 4 (a + j) with
    | none =>
      rw [full_none hj hc]
      exact ⟨by simp, w2, by rw [hc] at hw2; exact hw2, hlt, fun h => by cases h⟩
    | some b =>
      obtain ⟨f1, f2⟩ := full_some hj hc
      rw [f1]
      refine ⟨by simp, w2, by rw [hc] at hw2; exact hw2, hlt, fun h => ?_⟩
      have h1 := hnum h
      have h2 := numJ_lt hg a N j hN
      have h3 : (256 : Nat) ^ (N - j) ≤ 256 ^ 8 := Nat.pow_le_pow_right (by decide) (by omega)
      have h4 : (256 : Nat) ^ 8 = 18446744073709551616 := by decide
      rw [hc] at hw3
      simp only [Option.getD_some] at hw3
      rw [f2] at h2 ⊢
      rw [← h1] at h2 ⊢
      omega
  · have hcb : cel l 4 (a + j) = none := cel_beyond hg 4 (by omega)
    have hd : decide (a ≤ a') = false := by simp; omega
    rw [full_none hj hcb, hd]
    exact ⟨by simp, w2, hw2, hlt, fun h => by cases h⟩
set_option maxHeartbeats 12800000 in
set_option maxRecDepth 100000 in
theorem joins_walk (A : Option Addr) (c : Nat) (l0 : List Rg) (a : Nat) (n : Int) (w : World) (hA : RowOf RgAt 3 w A l0) (hlen : l0.length * 40 ≤ 140737488351232) (hby : ∀ r ∈ l0, r.bs.length ≤ 140737488351232)
    (ha : a < 18446744073709551616) (hn0 : -9223372036854775808 ≤ n) (hn1 : n ≤ 9223372036854775807) :
    Calls Try.prog 6 #[.slice A l0.length c, .int .u64 (a : Int), .int .i64 n] w fun e w' => e = .returned (.bool true) ∧ Fr w w' := by
  have HA := Lib.hid hA
  have HCP := Lib.hid (fun (w1 : World) (k : Fr w w1) => copy_any A l0 c w1 (HA.out.fr fun _ _ _ h => h.fr k) hlen hby)
  have hlm : l0.length ≤ maxLen := by unfold maxLen; omega
  have HNW := Lib.hid (fun (A' : Option Addr) (c' : Nat) (w1 : World) (h : RowOf RgAt 3 w1 A' l0) => new_any A' l0 c' w1 h hlm hby)
  clear hA hlen hby hlm
  go_enter Try.func6, Try.ntmps6
  go_wp2_with (go_at_call 7; refine (alive7 _).mono ?_; rintro e w1 ⟨rfl, hf⟩; have HF1 := Lib.hid hf; clear hf)
  refine (HCP.out _ HF1.out).mono ?_
  rintro e w2 ⟨vv, ps, rfl, hps, hrows, hf2⟩
  obtain ⟨A', c', rfl, hrow⟩ := hrows.row hps
  have HF2 := Lib.hid (HF1.out.call hf2)
  have HROW := Lib.hid hrow
  clear hrows hrow hf2 hps
  go_wp2_with fail
  refine (HNW.out A' c' _ HROW.out).mono ?_
  rintro e w3 ⟨hnew, hf3⟩
  have HF3 := Lib.hid (HF2.out.call hf3)
  clear hf3
  rcases hnew with ⟨z, hz, rfl, _⟩ | ⟨M, l, rfl, _, _, hg, hl64, hm, hbm, hbr, hbg⟩
  · go_wp2
    all_goals (go_ret; exact ⟨rfl, HF3.out⟩)
  · have HG := Lib.hid hg
    have HLD := Lib.hid (fun (w4 : World) (k : Fr w3 w4) (x : Nat) (hx : x < 18446744073709551616) (n : Int) => load_any hg (hm.fr k) hl64 x hx n)
    have HHL := Lib.hid (fun (w4 : World) (k : Fr w3 w4) => holds_any hg (hm.fr k) hl64 a ha n 4)
    have HL0 := Lib.hid (HLD.out w3 (Fr.refl _) a ha n)
    clear hm hg hbm hbr hbg HNW HCP HA HROW
    go_wp2_with fail
    refine HL0.out.mono ?_
    rintro e w4 ⟨rfl, hf4⟩
    have HF4 := Lib.hid hf4
    have HW4 := Lib.hid (HF3.out.call hf4)
    clear hf4
    by_cases hin : 1 ≤ n ∧ n ≤ 8
    · obtain ⟨N, rfl⟩ : ∃ N : Nat, n = (N : Int) := ⟨n.toNat, by omega⟩
      have hN1 : 1 ≤ N := by omega
      have hN8 : N ≤ 8 := by omega
      have hok : hldB l a (N : Int) 4 = fullB l a N 0 := by
        unfold hldB fullB
        rw [Int.toNat_natCast, from_run HG.out]
        simp only [Nat.add_zero, Nat.sub_zero]
        have e1 : (decide ((1 : Int) ≤ (N : Int)) && decide ((N : Int) ≤ 8) && (decide ((0 : Int) ≤ 4) && decide ((4 : Int) ≤ 7))) = true := by simp; omega
        rw [e1, Bool.true_and]
        by_cases q : (runB (cel l 4) a N).length = N
        · rw [decide_eq_true q, decide_eq_true]; omega
        · rw [decide_eq_false q, decide_eq_false]; omega
      have hld : ldN l a (N : Int) = if fullB l a N 0 then some (numJ l a N 0) else none := by
        unfold ldN numJ
        rw [hok, Int.toNat_natCast, from_run HG.out]; rfl
      rw [hok] at HHL
      have hs : (ldN l a (N : Int)).isSome = fullB l a N 0 := by rw [hld]; cases fullB l a N 0 <;> rfl
      have hvv : (ldN l a (N : Int)).getD 0 = if fullB l a N 0 then numJ l a N 0 else 0 := by rw [hld]; cases fullB l a N 0 <;> rfl
      rw [hs]
      clear HL0
      generalize (ldN l a (N : Int)).getD 0 = vl at *
      have HV := Lib.hid hvv
      clear hvv hs hld
      have hst : RelJ l a N w4 (.bool true) (.int .u64 0) (.int .i64 ((N : Int) - 1)) w4 := ⟨(N : Int) - 1, N, 0, rfl, by omega, Nat.le_refl _, by simp [fullB, runB], rfl, by omega, fun _ => by simp [numJ, runB, leN], Fr.refl _⟩
      have HST := Lib.hid hst
      have hi1 : (1 : Int) ≤ (N : Int) := by omega
      have hi8 : (N : Int) ≤ 8 := by omega
      clear hst hok hin hn0 hn1
      go_wp2_with fail
      go_loopw [11, 12, 13] (fun x y z wr => RelJ l a N w4 x y z wr) (fun _ _ z _ => (intOf z + 1).toNat)
      case atStart => exact HST.out
      case round =>
        obtain ⟨k, m, wt, rfl, hkm, hmN, rfl, rfl, hwt, hnum, hf⟩ := hrel
        have HF := Lib.hid hf
        have HNUM := Lib.hid hnum
        clear hnum
        by_cases hk : 0 ≤ k
        · obtain ⟨j, rfl⟩ : ∃ j : Nat, k = (j : Int) := ⟨k.toNat, by omega⟩
          obtain rfl : m = j + 1 := by omega
          have hjN : j < N := by omega
          have hjN2 : (j : Int) < (N : Int) := by omega
          obtain ⟨a', ha'⟩ : ∃ a', (a + j) % 18446744073709551616 = a' := ⟨_, rfl⟩
          have ha2 : a' < 18446744073709551616 := by omega
          have hwr : IntKind.u64.wrap ((a : Int) + (j : Int)) = (a' : Int) := by
            rw [wrap64]; omega
          have HLX := Lib.hid (fun (w5 : World) (k : Fr w3 w5) => HLD.out w5 k a' ha2 1)
          rw [ld_one HG.out] at HLX
          have HSJ := Lib.hid (step_j HG.out hjN hN8 ha ha' HNUM.out)
          clear hk hkm
          go_wp2_with (go_at_call 12; refine (HLX.out _ (HF4.out.call HF.out)).mono ?_; rintro e w5 ⟨rfl, hf5⟩; have HF5 := Lib.hid hf5; clear hf5)
          all_goals
            go_roundw
            case rel =>
              obtain ⟨e1, w2, e2, e3, e4⟩ := HSJ.out
              exact ⟨(j : Int) - 1, j, w2, rfl, by omega, by omega, congrArg Value.bool (by rw [← e1]; simp [*]), congrArg (Value.int .u64) e2, e3, e4, HF.out.call HF5.out⟩
            case measure => simp [intOf]
        · obtain rfl : m = 0 := by omega
          have HHX := Lib.hid (HHL.out wr (HF4.out.call HF.out))
          clear hf
          cases hfb : fullB l a N 0 with
          | true =>
            have h1 := HNUM.out hfb
            have h2 := HV.out
            rw [hfb, if_pos rfl] at h2
            rw [← h1] at h2
            subst h2
            rw [hfb] at HHX
            clear h1
            go_wp2_with (go_at_call 16; refine HHX.out.mono ?_; rintro e w5 ⟨rfl, hf5⟩; have HF5 := Lib.hid hf5; clear hf5)
            go_ret
            exact ⟨by first | rfl | exact ret_bool (by simp), (HW4.out.call HF.out).call HF5.out⟩
          | false =>
            have h2 := HV.out
            rw [hfb, if_neg (by simp)] at h2
            subst h2
            rw [hfb] at HHX
            go_wp2_with (go_at_call 16; refine HHX.out.mono ?_; rintro e w5 ⟨rfl, hf5⟩; have HF5 := Lib.hid hf5; clear hf5)
            go_ret
            exact ⟨by first | rfl | exact ret_bool (by simp), (HW4.out.call HF.out).call HF5.out⟩
    · have hnone : ldN l a n = none := by
        unfold ldN hldB
        rw [if_neg]
        simp only [Bool.and_eq_true, decide_eq_true_eq]
        rintro ⟨⟨⟨q1, q2⟩, _⟩, _⟩
        exact hin ⟨q1, q2⟩
      rw [hnone]
      clear HL0 hnone
      by_cases q1 : 1 ≤ n
      · have q2 : (8 : Int) < n := by omega
        go_wp2
        go_ret
        exact ⟨rfl, HW4.out⟩
      · go_wp2
        go_ret
        exact ⟨rfl, HW4.out⟩
end Go.Proofs.Ytelfokoibmpdlaa
