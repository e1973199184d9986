/- The document's div: long division, a bit at a time. -/
import Derived.Test.YtglgbhlnfafhjaaRmul
import Derived.Deep.RegionLaw
import Derived.Deep.QuietTactic
import Derived.BigQuiet
namespace Go.Proofs.Ytglgbhlnfafhjaa
open Go.RowKit

theorem own_one (w : World) (b : Nat) (x : Bool) (hb : b ≤ w.heap.size) : Own bolv (w.alloc (.cells #[.bool x] 4)) b 4 (.slice (some ⟨w.heap.size, 0, none⟩) 1 1) [x] :=
  ⟨by simp, .inr ⟨w.heap.size, 1, #[.bool x], rfl, hb, heap_alloc_new w _, Nat.le_refl _, by unfold maxLen; omega, rfl, by simp⟩⟩
theorem bitsI_top (n : Nat) (y : Int) (y0 : 0 ≤ y) (y1 : y < 2 ^ n) : bitsI n y ++ [false] = bitsI (n + 1) y := by
  rw [bitsI_snoc]
  congr 2
  unfold bitI
  rw [Int.ediv_eq_zero_of_lt y0 y1]; rfl
/-- A call answers two lists: n bits of q, n bits of r. -/
def AnsQR (w : World) (n : Nat) (q r : Int) (e : Ending) (w' : World) : Prop :=
  ∃ A c B d, e = .returned (.tuple #[.slice A n c, .slice B n d]) ∧ Rd bolv w' A (bitsI n q) ∧ n ≤ c ∧ c ≤ maxLen ∧ Rd bolv w' B (bitsI n r) ∧ n ≤ d ∧ d ≤ maxLen ∧ Fr w w'
/-- What stands at a round's head: q has the bits of Q from place j on; r is R. -/
def RelD (w : World) (B n : Nat) (x y : Int) (g qc : Nat) (r i : Value) (wr : World) : Prop :=
  ∃ (j g3 o3 c3 : Nat) (Q R : Int), j ≤ n ∧ i = .int .i64 ((j : Int) - 1) ∧ r = .slice (some ⟨g3, o3, none⟩) (n + 1) c3 ∧ n + 1 ≤ c3 ∧ c3 ≤ maxLen ∧ LongD n x y j Q R ∧
    Rd bolv wr (some ⟨g3, o3, none⟩) (bitsI (n + 1) R) ∧ g3 ≠ g ∧ Own bolv wr B 4 (.slice (some ⟨g, 0, none⟩) n qc) (bitsI n (Q * 2 ^ j)) ∧ Fr w wr
theorem half_pow (Q : Int) (i : Nat) : Q * 2 ^ (i + 1) = 2 * Q * 2 ^ i := by
  rw [two_succ, Int.mul_comm 2 Q, Int.mul_assoc, Int.mul_comm (2 ^ i) 2]
theorem Own.some {w : World} {base n c : Nat} {A : Option Addr} {l : List Bool} (h : Own bolv w base 4 (.slice A n c) l) (hl : l.length = n) (hn : 0 < n) : ∃ g, A = some ⟨g, 0, none⟩ ∧ base ≤ g ∧ g < w.heap.size := h.block hl hn
theorem less_is {n : Nat} {R y : Int} {b : Bool} (r0 : 0 ≤ R) (r1 : R < y) (y1 : y < 2 ^ n) : decide ((2 * R + b2i b) % 2 ^ (n + 1) < y % 2 ^ (n + 1)) = decide (2 * R + b2i b < y) := by
  have hb : 0 ≤ b2i b ∧ b2i b ≤ 1 := b2i_range b
  have e := two_succ n
  rw [Int.emod_eq_of_lt (by omega) (by omega), Int.emod_eq_of_lt (by omega) (by omega)]
set_option maxHeartbeats 6400000 in
set_option maxRecDepth 10000 in
theorem rdiv_any (A B : Option Addr) (n c d : Nat) (x y : Int) (h1 : 1 ≤ n) (hn : n ≤ 128) (x0 : 0 ≤ x) (x1 : x < 2 ^ n) (y0 : 0 < y) (y1 : y < 2 ^ n) (w : World) (ha : Rd bolv w A (bitsI n x)) (hb : Rd bolv w B (bitsI n y)) :
    Calls Try.prog 52 #[.slice A n c, .slice B n d] w fun e w' => AnsQR w n (x / y) (x % y) e w' := by
  have HA := Lib.hid ha
  have HB := Lib.hid hb
  have H0 := Lib.hid (fun wx => noughts_b n (by omega) wx)
  have H1 := Lib.hid (show ∀ wx, Calls Try.prog 49 #[.slice none 0 0, .int .i64 ((n : Int) + 1), .bool false] wx fun e w' => AnsB wx (n + 1) 0 e w' from fun wx => noughts_b (n + 1) (by omega) wx)
  have HN := Lib.hid (fun A c wx hr => rnot_b A (n + 1) c y (by omega) wx hr)
  have HL := Lib.hid (fun A c B d R wx ha hb => rless_any A B (n + 1) c d R y (by omega) wx ha hb)
  have HD := Lib.hid (fun A B c d R wx ha hb => radd_b A B (n + 1) c d R (-1 - y) true (by omega) wx ha hb)
  have HT := Lib.hid (bitsI_top n y (by omega) y1)
  have HS := Lib.hid (LongD.start (n := n) x0 x1 y0)
  have HLE := Lib.hid (fun R b r0 r1 => less_is (n := n) (R := R) (b := b) r0 r1 y1)
  clear ha hb x0 x1 y0 y1
  go_enter Try.func52, Try.ntmps52
  go_wp2_with (first
    | (at_builtin; refine wpList_append_rd one_bool _ rfl (.tmp 13) (.tmp 14) 41 rfl w.heap.size 4 Try.underlying41 Try.infob rfl _ ([] : List Bool) rfl (own_at w _ _ rfl (Nat.le_refl _)) B n d (bitsI n y) rfl (bitsI_length _ _) (HB.out.alloc _) (by simp; unfold maxLen; omega) (by simp; omega) (by simp) ?_
       intro v1 w1 HG1
       have HF1 := Lib.hid (HG1.out.fr ((Fr.refl w).alloc _) (Nat.le_refl _) (own_at w _ _ rfl (Nat.le_refl _)).base_le)
       have hz1 := HF1.out.size)
    | (at_builtin; refine wpList_append_rd one_bool _ rfl (.tmp 15) (.tmp 16) 41 rfl w.heap.size 4 Try.underlying41 Try.infob rfl _ ([] ++ bitsI n y) rfl (HG1.out.own.alloc _) (some ⟨w1.heap.size, 0, none⟩) 1 1 [false] rfl rfl (rd_one _ _ _) (by simp [bitsI_length]; unfold maxLen; omega) (by simp [bitsI_length]; omega) (by simp; omega) ?_
       intro v2 w2 HG2
       have HF2 := Lib.hid (HG2.out.fr (HF1.out.alloc _) (Nat.le_refl _) HG1.out.own.base_le)
       have HO2 := Lib.hid (show Own bolv w2 w.heap.size 4 v2 (bitsI (n + 1) y) by have h := HG2.out.own; rw [List.nil_append, HT.out] at h; exact h)
       obtain ⟨A2, c2, hv2, hl2, hm2, hr2⟩ := HO2.out.val
       rw [bitsI_length] at hv2 hl2
       subst hv2
       have HR2 := Lib.hid hr2
       clear HG1 HG2 HF1 hr2 HO2 HT hz1)
    | (go_at_call_of 49 (Value.int IntKind.i64 (n : Int))
       refine (H0.out _).mono ?_
       rintro e w3 ⟨A3, c3, rfl, ho, hr, hl3, hm3, hf⟩
       have HO3 := Lib.hid ho
       have HF3 := Lib.hid hf
       clear ho hr hf)
    | (go_at_call 49
       refine (H1.out _).mono ?_
       rintro e w4 ⟨A4, c4, rfl, ho, hr, hl4, hm4, hf⟩
       obtain ⟨g, rfl, hgb, hgl⟩ := HO3.out.some (bitsI_length _ _) (by omega)
       obtain ⟨g4, rfl, hgb4, hgl4⟩ := ho.some (bitsI_length _ _) (by omega)
       have HO4 := Lib.hid (HO3.out.fr hf)
       have HR4 := Lib.hid hr
       have HF4 := Lib.hid (HF3.out.call hf)
       have HNE := Lib.hid (show g4 ≠ g by omega)
       have HGB := Lib.hid hgb
       clear ho hr hf HO3 HF3 hgb hgl hgb4 hgl4))
  go_loopw [9, 10] (fun r i wr => RelD w2 w2.heap.size n x y g c3 r i wr) (fun _ i _ => (intOf i + 1).toNat)
  case atStart => exact ⟨n, g4, 0, c4, 0, 0, Nat.le_refl _, rfl, rfl, hl4, hm4, HS.out, HR4.out, HNE.out, by rw [Int.zero_mul]; exact HO4.out, HF4.out⟩
  case round =>
    clear HO4 HR4 HF4 HNE hl4 hm4 HS H0 H1
    obtain ⟨j, g5, o5, c5, Q, R, hj, rfl, rfl, hl5, hm5, hL, hr5, hne5, hown, hfr⟩ := hrel
    have HLD := Lib.hid hL
    have HR5 := Lib.hid hr5
    have HNE5 := Lib.hid hne5
    have HOW := Lib.hid hown
    have HFR := Lib.hid hfr
    clear hL hr5 hne5 hown hfr
    by_cases hlt : 0 < j
    · obtain ⟨i, rfl⟩ : ∃ i, j = i + 1 := ⟨j - 1, by omega⟩
      have ei : ((i + 1 : Nat) : Int) - 1 = (i : Int) := by omega
      rw [ei]
      clear ei
      obtain ⟨ga, oa, rfl, _, hc⟩ := ((HA.out.fr HF2.out).fr HFR.out) (by rw [bitsI_length]; omega)
      have hca := hc i (by rw [bitsI_length]; omega)
      rw [bitsI_get] at hca
      change _ = some (Value.bool _) at hca
      have HK := Lib.hid (fun h => HLD.out.keep h)
      have HM := Lib.hid (fun h => HLD.out.less h)
      have HLT := Lib.hid (HLE.out R (bitI x i) HLD.out.2.1 HLD.out.2.2.1)
      generalize bitI x i = p at *
      clear hc
      have HRF := Lib.hid (show Rd bolv wr (some ⟨g5, o5, none⟩) (bitsI n R) by have h := HR5.out.front n (by rw [bitsI_length]; omega); rwa [bitsI_take _ _ _ (by omega)] at h)
      have hn5 : (n : Int) ≤ (c5 : Int) := by omega
      have hin : i < n := by omega
      have hgz : g < wr.heap.size := by obtain ⟨g', e, _, hl⟩ := HOW.out.some (bitsI_length _ _) (by omega); injection e with e; injection e with e; omega
      go_wp2
      go_region_law (first
        | (refine step_append_rd one_bool _ rfl (.tmp 33) (.tmp 36) 41 rfl wr.heap.size 4 Try.underlying41 Try.infob rfl _ [p] rfl (own_one wr _ p (Nat.le_refl _)).drew (some ⟨g5, o5, none⟩) n c5 (bitsI n R) rfl (bitsI_length _ _) (HRF.out.alloc _).drew (by simp; unfold maxLen; omega) (by simp; omega) (by simp) ?_; intro x6 w6 HG6))
      all_goals
        have HF6 := Lib.hid (HG6.out.fr ((Fr.refl wr).alloc _).drew (Nat.le_refl _) (own_one wr _ p (Nat.le_refl _)).drew.base_le)
        have HO6 := Lib.hid (show Own bolv w6 wr.heap.size 4 x6 (bitsI (n + 1) (2 * R + b2i p)) by have h := HG6.out.own; rw [List.singleton_append, bitsI_cons] at h; exact h)
        obtain ⟨A6, c6, hv6, hl6, hm6, hr6⟩ := HO6.out.val
        rw [bitsI_length] at hv6 hl6
        subst hv6
        have HO6' := Lib.hid (show Own bolv w6 wr.heap.size 4 (.slice A6 (n + 1) c6) (bitsI (n + 1) (2 * R + b2i p)) from HO6.out)
        obtain ⟨g6, rfl, hgb6, hgl6⟩ := HO6'.out.some (bitsI_length _ _) (by omega)
        have HR6 := Lib.hid hr6
        have HNE6 := Lib.hid (show g6 ≠ g by omega)
        have HOW6 := Lib.hid (HOW.out.fr HF6.out)
        have HFR6 := Lib.hid (HFR.out.call HF6.out)
        have HW6 := Lib.hid (HR2.out.fr HFR6.out)
        clear HG6 HO6 HO6' hr6 hgb6 hgl6 HRF
        by_cases hl : 2 * R + b2i p < y
        · have HLd := Lib.hid (show decide ((2 * R + b2i p) % 2 ^ (n + 1) < y % 2 ^ (n + 1)) = true by rw [HLT.out]; exact decide_eq_true hl)
          have HKd := Lib.hid (HK.out hl)
          have HLc := Lib.hid (fun A c B d wx ha hb => HL.out A c B d (2 * R + b2i p) wx ha hb)
          rw [HLd.out] at HLc
          clear hl HLT HLd
          go_wp2_with (first
            | (go_at_call 30
               refine (HLc.out _ _ _ _ _ HR6.out HW6.out).mono ?_
               rintro e w7 ⟨rfl, hf⟩
               have HF7 := Lib.hid hf
               clear hf))
          go_roundw
          case rel => exact ⟨i, g6, 0, c6, 2 * Q, 2 * R + b2i p, by omega, rfl, rfl, hl6, hm6, HKd.out, HR6.out.fr HF7.out, HNE6.out, by rw [← half_pow]; exact HOW6.out.fr HF7.out, HFR6.out.call HF7.out⟩
          case measure => simp [intOf]
        · have HLd := Lib.hid (show decide ((2 * R + b2i p) % 2 ^ (n + 1) < y % 2 ^ (n + 1)) = false by rw [HLT.out]; exact decide_eq_false hl)
          have HKd := Lib.hid (HM.out (by omega))
          have HLc := Lib.hid (fun A c B d wx ha hb => HL.out A c B d (2 * R + b2i p) wx ha hb)
          rw [HLd.out] at HLc
          have HDc := Lib.hid (fun A B c d wx ha hb => HD.out A B c d (2 * R + b2i p) wx ha hb)
          have hE : 2 * R + b2i p + (-1 - y) + b2i true = 2 * R + b2i p - y := by simp [b2i]; omega
          rw [hE] at HDc
          have HX := Lib.hid (bitsI_set n i Q hin)
          clear hl HLT HLd hE
          obtain ⟨old, hold⟩ : ∃ old, wr.cell? ⟨g, i, none⟩ = some old := by
            obtain ⟨k2, o2, hk2, _, hc2⟩ := (HOW.out.rd (bitsI_length _ _)) (by rw [bitsI_length]; omega)
            injection hk2 with hk2
            injection hk2 with e1 e2
            subst e1 e2
            exact ⟨_, by have h := hc2 i (by rw [bitsI_length]; omega); rw [Nat.zero_add] at h; exact h⟩
          have HC0 := Lib.hid hold
          clear hold
          go_wp2_with (first
            | (go_at_call 30
               refine (HLc.out _ _ _ _ _ HR6.out HW6.out).mono ?_
               rintro e w7 ⟨rfl, hf⟩
               have HF7 := Lib.hid hf
               clear hf)
            | (go_at_call 25
               refine (HN.out _ _ _ (HW6.out.fr HF7.out)).mono ?_
               rintro e w8 ⟨A8, c8, rfl, _, hr8, _, _, hf⟩
               have HR8 := Lib.hid hr8
               have HF8 := Lib.hid (HF7.out.call hf)
               clear hr8 hf)
            | (go_at_call 24
               refine (HDc.out _ _ _ _ _ (HR6.out.fr HF8.out) HR8.out).mono ?_
               rintro e w9 ⟨A9, c9, rfl, ho9, hr9, hl9, hm9, hf⟩
               obtain ⟨g9, rfl, hgb9, hgl9⟩ := ho9.some (bitsI_length _ _) (by omega)
               have hz8 := HF8.out.size
               have hz6 := HF6.out.size
               have HNE9 := Lib.hid (show g9 ≠ g by omega)
               have HR9 := Lib.hid hr9
               have HF9 := Lib.hid (HF8.out.call hf)
               have HOW9 := Lib.hid (HOW6.out.fr HF9.out)
               have HFR9 := Lib.hid (HFR6.out.call HF9.out)
               have hcell := (HF6.out.call HF9.out).get HC0.out
               have hfree := HOW9.out.thaw (bitsI_length _ _) i
               clear ho9 hr9 hf hz8 hz6 hgb9 hgl9))
          go_roundw
          case rel => exact ⟨i, g9, 0, c9, 2 * Q + 1, 2 * R + b2i p - y, by omega, rfl, rfl, hl9, hm9, HKd.out, HR9.out.store (fun k o h => by injection h with h; injection h with h; subst h; exact HNE9.out) _ _, HNE9.out, by rw [← HX.out]; exact HOW9.out.store (bitsI_length _ _) _ true, HFR9.out.set HGB.out _⟩
          case measure => simp [intOf]
    · obtain rfl : j = 0 := by omega
      obtain ⟨hq, hr⟩ := HLD.out.done
      have HRQ := Lib.hid (show Rd bolv wr (some ⟨g, 0, none⟩) (bitsI n (x / y)) by have h := HOW.out.rd (bitsI_length _ _); rw [hq, Int.pow_zero, Int.mul_one] at h; exact h)
      have HRR := Lib.hid (show Rd bolv wr (some ⟨g5, o5, none⟩) (bitsI n (x % y)) by have h := HR5.out.front n (by rw [bitsI_length]; omega); rw [bitsI_take _ _ _ (by omega), hr] at h; exact h)
      have hn5 : (n : Int) ≤ (c5 : Int) := by omega
      have hn6 : n ≤ c5 := by omega
      have HF := Lib.hid (HF2.out.call HFR.out)
      clear hq hr
      go_wp2
      go_quiet (fail)
      go_wp2
      go_ret2
      exact ⟨_, _, _, _, rfl, HRQ.out.drewN _, hl3, hm3, HRR.out.drewN _, hn6, hm5, HF.out.drewN _⟩
end Go.Proofs.Ytglgbhlnfafhjaa
