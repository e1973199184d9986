/- The document's Fetch. -/
import Derived.Test.YtelfokoibmpdlaaJb
import Derived.Test.YtelfokoibmpdlaaJf
namespace Go.Proofs.Ytelfokoibmpdlaa
open Go.RowKit
set_option linter.unusedSimpArgs false
set_option linter.unusedVariables false

theorem runB_stop {f : Nat → Option Nat} : ∀ (k a N : Nat), (runB f a k).length = k → f (a + k) = none → k ≤ N → runB f a N = runB f a k
  | 0, a, N, _, h, _ => by rw [runB_none (by simpa using h)]; rfl
  | k + 1, a, 0, _, _, h => by omega
  | k + 1, a, N + 1, hl, h, hN => by
    unfold runB at hl ⊢
    cases hf : f a with
    | none => rfl
    | some b =>
      rw [hf] at hl
      simp only [List.length_cons, Nat.add_right_cancel_iff] at hl ⊢
      rw [runB_stop k (a + 1) N hl (by rw [← h]; congr 1; omega) (by omega)]
theorem runB_snoc {f : Nat → Option Nat} {b : Nat} : ∀ (k a : Nat), (runB f a k).length = k → f (a + k) = some b → runB f a (k + 1) = runB f a k ++ [b]
  | 0, a, _, h => by
    have h : f a = some b := by simpa using h
    simp [runB, h]
  | k + 1, a, hl, h => by
    unfold runB at hl
    cases hf : f a with
    | none => rw [hf] at hl; simp at hl
    | some c =>
      rw [hf] at hl
      simp only [List.length_cons, Nat.add_right_cancel_iff] at hl
      have := runB_snoc k (a + 1) hl (by rw [← h]; congr 1; omega)
      conv => lhs; unfold runB
      conv => rhs; unfold runB
      rw [hf]; simp only; rw [this]; rfl
def RelFe (lp : List Rg) (a N : Nat) (w : World) (v i : Value) (wr : World) : Prop := ∃ k : Nat, i = .int .i64 (k : Int) ∧ k ≤ N ∧ (runB (cel lp 1) a k).length = k ∧ wr.ownsRow w.heap.size 5 1 v k ((runB (cel lp 1) a k).map u8n) ∧ Fr w wr
set_option maxHeartbeats 6400000 in
set_option maxRecDepth 100000 in
theorem rfetch_any {lw lp : List Rg} (hL : Lnk lw lp) (A : Option Addr) (c : Nat) (w : World) (hA : RowOf RgAt 3 w A lw) (hlen : lw.length ≤ 64) (hsm : ∀ r ∈ lw, r.bs.length ≤ 67108864) (a : Nat) (ha : a < 18446744073709551616) (n : Int) :
    Calls Try.prog 20 #[.slice A lw.length c, .int .u64 (a : Int), .int .i64 n] w fun e w' => ∃ v, e = .returned v ∧ w'.ownsRow w.heap.size 5 1 v (runB (cel lp 1) a (min n 15).toNat).length ((runB (cel lp 1) a (min n 15).toNat).map u8n) ∧ Fr w w' := by
  obtain ⟨N, hN⟩ : ∃ N, (min n 15).toNat = N := ⟨_, rfl⟩
  rw [hN]
  have HA := Lib.hid hA
  have HPL := Lib.hid (fun (w1 : World) (k : Fr w w1) (x : Nat) (hx : x < 18446744073709551616) => place_any A lw c w1 (hA.fr fun _ _ _ h => h.fr k) hlen hsm x hx 1 (.inl rfl))
  have HL := Lib.hid hL
  have HNN := Lib.hid hN
  clear hA hL hsm hN
  go_enter Try.func20, Try.ntmps20
  go_wp2
  go_loopw [7, 8] (fun v i wr => RelFe lp a N w v i wr) (fun _ i _ => N - (intOf i).toNat)
  case atStart => exact ⟨0, rfl, by omega, rfl, World.ownsRow_made _ #[] 0 (Nat.le_refl _) (by decide) rfl, Fr.alloc (Fr.refl w) _⟩
  case round =>
    obtain ⟨k, rfl, hk, hful, hown, hf⟩ := hrel
    have HF := Lib.hid hf
    have HO := Lib.hid hown
    have HFU := Lib.hid hful
    have hend : cel lp 1 (a + k) = none → runB (cel lp 1) a N = runB (cel lp 1) a k := fun h => runB_stop k a N hful h hk
    have HEND := Lib.hid hend
    clear hend hful hown hf
    by_cases hkN : k < N
    · have hkn : (k : Int) < n := by have := HNN.out; omega
      have hk15 : (k : Int) < 15 := by have := HNN.out; omega
      have hkk : k < 15 := by omega
      obtain ⟨a', ha'⟩ : ∃ a', (a + k) % 18446744073709551616 = a' := ⟨_, rfl⟩
      have ha2 : a' < 18446744073709551616 := by omega
      have hwr : IntKind.u64.wrap ((a : Int) + (k : Int)) = (a' : Int) := by
        rw [wrap64]; omega
      have HP := Lib.hid (HPL.out wr HF.out a' ha2)
      by_cases hb : a + k < 18446744073709551616
      · obtain rfl : a' = a + k := by omega
        have hwr2 : IntKind.u64.wrap ((a : Int) + (k : Int)) = (a : Int) + (k : Int) := by rw [hwr]; omega
        clear hwr
        cases hpc : plc lw 1 (a + k) with
        | none =>
          have HN := Lib.hid (HEND.out (plc_none HL.out (.inl rfl) hpc))
          rw [hpc] at HP
          clear hk hkN
          go_wp2_with (go_at_call 29; refine HP.out.mono ?_; rintro e w5 ⟨rfl, hf5⟩; have HF5 := Lib.hid hf5; clear hf5; simp only [plcV])
          go_ret
          exact ⟨_, rfl, by rw [HN.out, HFU.out]; exact ownsRow_kp HO.out (S := fun _ => False) (Kp.of HF5.out) (fun _ _ h => h), HF.out.call HF5.out⟩
        | some i =>
          obtain ⟨hi, q1, q2, q3⟩ := plc_some HL.out (.inl rfl) hpc
          rw [hpc] at HP
          have htp : (lw[i]).top = (lw[i]).pl + (lw[i]).bs.length := rfl
          have hidx : a + k - (lw[i]).pl < (lw[i]).bs.length := by omega
          rw [List.getElem?_eq_getElem hidx] at q3
          have HSN := Lib.hid (runB_snoc k a HFU.out q3)
          have hD : lw.getD i default = lw[i] := by simp [List.getD, hi]
          obtain ⟨b, o, rfl, hx⟩ := (HA.out.fr (fun _ _ _ h => h.fr HF.out)).at hi
          rw [Nat.mul_comm 3 i] at hx
          obtain ⟨s, hs, c0, c1, c2⟩ := hx
          obtain ⟨g, go, hsa, hgl, hbc⟩ := hs.rd (show 0 < (lw[i]).bs.length by omega)
          have hbcx := hbc _ hidx
          rw [hsa] at c2
          unfold u8n at hbcx
          simp only at hbcx
          clear hbc hs
          generalize (lw[i]).bs[a + k - (lw[i]).pl] = x at *
          have HV := Lib.hid (show plcV lw (a + k) (some i) = .tuple #[.int .i64 (i : Int), .int .i64 ((a + k - (lw[i]).pl : Nat) : Int)] by simp only [plcV]; rw [hD])
          rw [HV.out] at HP
          generalize (lw[i]).bs.length = nn at *
          generalize a + k - (lw[i]).pl = d at *
          have hii : (i : Int) < (lw.length : Int) := by omega
          have hdi : (d : Int) < (nn : Int) := by omega
          have e2 := fun ww (kk : Fr wr ww) => kk.get c2
          have eb := fun ww (kk : Fr wr ww) => kk.get hbcx
          have E2 := Lib.hid e2
          have EB := Lib.hid eb
          clear q3 hD htp c0 c1 c2 hbcx e2 eb HV hpc hsa
          go_wp2_with (first
            | (go_at_call 29; refine HP.out.mono ?_; rintro e w5 ⟨rfl, hf5⟩; have HF5 := Lib.hid hf5; have d2 := E2.out _ hf5; have db := EB.out _ hf5; clear hf5)
            | (at_builtin; refine wpList_appendk _ rfl (.tmp 40) (.tmp 49) 44 rfl w.heap.size 5 1 Try.underlying44 Try.infoB rfl (by decide) _ k ((runB (cel lp 1) a k).map u8n) rfl ?_ (some ⟨w5.heap.size, 0, none⟩) 1 1 [u8n x] rfl ?_ ?_ ?_ ?_ ?_ ?_ ?_ ?_))
          · exact ownsRow_kp HO.out (S := fun _ => False) (Kp.of (Fr.alloc HF5.out _)) (fun _ _ h => h)
          · rfl
          · intro _
            refine ⟨_, rfl, fun j u hj => ?_⟩
            rw [add_zero_k]
            match j, hj with
            | 0, hj => obtain rfl : _ = u := Option.some.inj hj; rw [World.cell?_alloc_at _ _ _ _ (by simp)]; rfl
          · intro h; cases h
          · intro u hu; simp at hu; subst hu; rfl
          · unfold maxLen; omega
          · omega
          · have := HF.out.size; have := HF5.out.size; simp; omega
          intro v6 w6 HG6
          have HG6' := Lib.hid HG6.out
          have HK6 := Lib.hid HG6.out.kp
          clear HG6
          go_wp2
          go_roundw
          case rel =>
            refine ⟨k + 1, rfl, by omega, by rw [HSN.out]; simp [HFU.out], by rw [HSN.out, List.map_append]; exact HG6'.out.1, ?_⟩
            exact ((Kp.of (Fr.alloc (HF.out.call HF5.out) _)).call HK6.out).to fun x hx => (HO.out.lt x hx).1
          case measure => simp [intOf]; omega
      · have hno : cel lp 1 (a + k) = none := cel_over HL.out.good 1 (show 18446744073709551616 ≤ a + k by omega)
        have HN := Lib.hid (HEND.out hno)
        have hlt : a' < a := by omega
        have hlti : (a' : Int) < (a : Int) := by omega
        clear hno ha' hk hkN
        cases hpc : plc lw 1 a' with
        | none =>
          rw [hpc] at HP
          go_wp2_with (go_at_call 29; refine HP.out.mono ?_; rintro e w5 ⟨rfl, hf5⟩; have HF5 := Lib.hid hf5; clear hf5; simp only [plcV])
          go_ret
          exact ⟨_, rfl, by rw [HN.out, HFU.out]; exact ownsRow_kp HO.out (S := fun _ => False) (Kp.of HF5.out) (fun _ _ h => h), HF.out.call HF5.out⟩
        | some i =>
          rw [hpc] at HP
          go_wp2_with (go_at_call 29; refine HP.out.mono ?_; rintro e w5 ⟨rfl, hf5⟩; have HF5 := Lib.hid hf5; clear hf5; simp only [plcV])
          go_ret
          exact ⟨_, rfl, by rw [HN.out, HFU.out]; exact ownsRow_kp HO.out (S := fun _ => False) (Kp.of HF5.out) (fun _ _ h => h), HF.out.call HF5.out⟩
    · obtain rfl : k = N := by omega
      have h1 := HNN.out
      by_cases hkn : (k : Int) < n
      · have hk15 : (15 : Int) ≤ (k : Int) := by omega
        clear hk hkN
        go_wp2
        go_ret
        exact ⟨_, rfl, by rw [HFU.out]; exact HO.out, HF.out⟩
      · clear hk hkN
        go_wp2
        go_ret
        exact ⟨_, rfl, by rw [HFU.out]; exact HO.out, HF.out⟩
end Go.Proofs.Ytelfokoibmpdlaa
