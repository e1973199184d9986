/- The document's lists, each as n bits of a number; Neg and Normal. -/
import Derived.Test.YtglgbhlnfafhjaaRadd
import Derived.Test.YtglgbhlnfafhjaaRto
import Derived.Test.YtglgbhlnfafhjaaRless
import Derived.Test.YtglgbhlnfafhjaaNumb
namespace Go.Proofs.Ytglgbhlnfafhjaa
open Go.RowKit

/-- A call answers n bits of x in memory of its own. -/
def AnsB (w : World) (n : Nat) (x : Int) (e : Ending) (w' : World) : Prop :=
  ∃ A c, e = .returned (.slice A n c) ∧ Own bolv w' w.heap.size 4 (.slice A n c) (bitsI n x) ∧ Rd bolv w' A (bitsI n x) ∧ n ≤ c ∧ c ≤ maxLen ∧ Fr w w'
theorem ansB {w w' : World} {n : Nat} {x : Int} {e : Ending} (h : Ans w (bitsI n x) e w') : AnsB w n x e w' := by
  obtain ⟨A, c, he, ho, hf⟩ := h
  obtain ⟨A2, c2, hv, h1, h2, hr⟩ := ho.val
  rw [bitsI_length] at he ho h1
  injection hv with e1 e2 e3
  subst e1 e3
  exact ⟨A, c, he, ho, hr, h1, h2, hf⟩
theorem ansB_of {w w' : World} {n : Nat} {x y : Int} {e : Ending} (h : AnsB w n x e w') (hxy : x % 2 ^ n = y % 2 ^ n) : AnsB w n y e w' := by
  obtain ⟨A, c, he, ho, hr, h1, h2, hf⟩ := h
  rw [bitsI_congr hxy] at ho hr
  exact ⟨A, c, he, ho, hr, h1, h2, hf⟩
theorem of_b (n : Nat) (v : Int) (hn : n ≤ 128) (w : World) : Calls Try.prog 21 #[bv n v] w fun e w' => AnsB w n v e w' := (of_any n v hn w).mono fun _ _ h => ansB h
theorem rcut_b (A : Option Addr) (m c n : Nat) (x : Int) (b : Bool) (hm : m ≤ 1000) (hn : n ≤ 1000) (w : World) (hr : Rd bolv w A (bitsI m x)) : Calls Try.prog 49 #[.slice A m c, .int .i64 (n : Int), .bool b] w fun e w' => AnsB w n (fillI m x b) e w' := (rcut_any A m c n x b hm hn w hr).mono fun _ _ h => ansB h
theorem noughts_b (n : Nat) (hn : n ≤ 1000) (w : World) : Calls Try.prog 49 #[.slice none 0 0, .int .i64 (n : Int), .bool false] w fun e w' => AnsB w n 0 e w' :=
  (rcut_any none 0 0 n 0 false (by omega) hn w Rd.nil).mono fun _ _ h => ansB_of (ansB h) (by rw [fillI_none])
theorem rnot_b (A : Option Addr) (m c : Nat) (x : Int) (hm : m ≤ 1000) (w : World) (hr : Rd bolv w A (bitsI m x)) : Calls Try.prog 25 #[.slice A m c] w fun e w' => AnsB w m (-1 - x) e w' := (rnot_any A m c x hm w hr).mono fun _ _ h => ansB h
theorem radd_b (A B : Option Addr) (m c d : Nat) (x y : Int) (z : Bool) (hm : m ≤ 1000) (w : World) (ha : Rd bolv w A (bitsI m x)) (hb : Rd bolv w B (bitsI m y)) : Calls Try.prog 24 #[.slice A m c, .slice B m d, .bool z] w fun e w' => AnsB w m (x + y + b2i z) e w' := (radd_any A B m c d x y z hm w ha hb).mono fun _ _ h => ansB h
set_option maxHeartbeats 3200000 in
theorem rneg_b (A : Option Addr) (m c : Nat) (x : Int) (hm : m ≤ 1000) (w : World) (hr : Rd bolv w A (bitsI m x)) :
    Calls Try.prog 51 #[.slice A m c] w fun e w' => AnsB w m (-x) e w' := by
  have HR := Lib.hid hr
  have HN := Lib.hid (fun wx hr => rnot_b A m c x hm wx hr)
  have HC := Lib.hid (fun wx => noughts_b m hm wx)
  have HA := Lib.hid (fun A B c d wx ha hb => radd_b A B m c d (-1 - x) 0 true hm wx ha hb)
  have E := Lib.hid (show -1 - x + 0 + b2i true = -x by simp [b2i]; omega)
  rw [E.out] at HA
  clear hr
  go_enter Try.func51, Try.ntmps51
  go_wp2_with (first
    | (go_at_call 25; refine (HN.out _ HR.out).mono ?_; rintro e w1 ⟨A1, c1, rfl, _, hr1, _, _, hf⟩; have HR1 := Lib.hid hr1; have HF1 := Lib.hid hf; clear hr1 hf)
    | (go_at_call 49; refine (HC.out _).mono ?_; rintro e w2 ⟨A2, c2, rfl, _, hr2, _, _, hf⟩; have HR2 := Lib.hid hr2; have HF2 := Lib.hid hf; clear hr2 hf)
    | (go_at_call 24; refine (HA.out _ _ _ _ _ (HR1.out.fr HF2.out) HR2.out).mono ?_; rintro e w3 ⟨A3, c3, rfl, ho, hr3, h1, h2, hf⟩; have HO3 := Lib.hid ho; have HR3 := Lib.hid hr3; have HF3 := Lib.hid hf; clear ho hr3 hf))
  have HF := Lib.hid ((HF1.out.call HF2.out).call HF3.out)
  go_ret
  exact ⟨A3, c3, rfl, HO3.out.lower (HF1.out.call HF2.out).size, HR3.out, h1, h2, HF.out⟩
theorem two_128 : (2 : Int) ^ 128 = 340282366920938463463374607431768211456 := by decide
/-- Nothing from W on till j. -/
def RelNm (w : World) (W : Nat) (v : Int) (i : Value) (wr : World) : Prop := ∃ j : Nat, W ≤ j ∧ j ≤ 128 ∧ i = .int .i64 (j : Int) ∧ v % 2 ^ j = v % 2 ^ W ∧ Fr w wr
theorem norm_stop (W : Nat) (v : Int) (j : Nat) (v0 : 0 ≤ v) (hj : W ≤ j) (hb : bitI v j = true) : ¬ v < 2 ^ W := fun h => by
  have h2 := two_le hj
  unfold bitI at hb
  rw [Int.ediv_eq_zero_of_lt v0 (by omega)] at hb
  simp at hb
set_option maxHeartbeats 3200000 in
set_option maxRecDepth 10000 in
theorem rnormal_in (W : Nat) (v : Int) (h1 : 1 ≤ W) (h2 : W ≤ 128) (v0 : 0 ≤ v) (v1 : v < 340282366920938463463374607431768211456) (w : World) :
    Calls Try.prog 20 #[bv W v] w fun e w' => e = .returned (.bool (decide (v < 2 ^ W))) ∧ Fr w w' := by
  have HB := Lib.hid (fun i h wx => bit_any v i h wx)
  have h0 := hi_word v
  have l0 := lo_word v
  obtain ⟨c0, c1, c2⟩ := bits_cells w 24 (.int .i64 (W : Int)) (.int .u64 (hi v)) (.int .u64 (lo v))
  have C0 := Lib.hid c0
  have C1 := Lib.hid c1
  have C2 := Lib.hid c2
  clear c0 c1 c2
  have HV := Lib.hid (show v % 2 ^ 128 = v from Int.emod_eq_of_lt v0 (by rw [two_128]; exact v1))
  have HN := Lib.hid (fun j => norm_stop W v j v0)
  have HP := Lib.hid (Int.emod_lt_of_pos v (two_pos W))
  have HM := Lib.hid (mod_succ v)
  clear v1
  go_enter Try.func20, Try.ntmps20
  go_wp2
  go_loopw [3] (fun i wr => RelNm (w.alloc (.cells #[.int .i64 (W : Int), .int .u64 (hi v), .int .u64 (lo v)] 24)) W v i wr) (fun i _ => 128 - (intOf i).toNat)
  case atStart => exact ⟨W, Nat.le_refl _, h2, rfl, rfl, Fr.refl _⟩
  case round =>
    obtain ⟨j, hj, hj2, rfl, hq, hfr⟩ := hrel
    have HQ := Lib.hid hq
    have HF := Lib.hid hfr
    have hc0 := HF.out.get C0.out
    have hc1 := HF.out.get C1.out
    have hc2 := HF.out.get C2.out
    clear hq hfr
    by_cases hlt : j < 128
    · have HBj := Lib.hid (fun wx => HB.out j hlt wx)
      have HNj := Lib.hid (HN.out j hj)
      have HMj := Lib.hid (HM.out j)
      generalize bitI v j = b at *
      cases b
      · go_wp2_with (first
          | (go_at_call 48; refine (HBj.out _).mono ?_; rintro e wy ⟨rfl, rfl⟩))
        go_roundw
        case rel => exact ⟨j + 1, by omega, by omega, by go_num, by rw [HMj.out, ← HQ.out]; simp, HF.out⟩
        case measure => simp [intOf]; omega
      · go_wp2_with (first
          | (go_at_call 48; refine (HBj.out _).mono ?_; rintro e wy ⟨rfl, rfl⟩))
        go_ret
        exact ⟨ret_bool (by have h := HNj.out; simp at h; rw [decide_eq_false (by omega)]), ((Fr.refl w).alloc _).call HF.out⟩
    · obtain rfl : j = 128 := by omega
      have HE := Lib.hid (show decide (v < 2 ^ W) = true by
        have h1 := HQ.out
        have h2 := HV.out
        have h3 := HP.out
        rw [h2] at h1
        simp
        omega)
      go_wp2
      go_ret
      exact ⟨ret_bool HE.out.symm, ((Fr.refl w).alloc _).call HF.out⟩
theorem rnormal_out (W v : Int) (h : W < 1 ∨ 128 < W) (w : World) :
    Calls Try.prog 20 #[bv W v] w fun e w' => e = .returned (.bool false) ∧ Fr w w' := by
  rcases h with h | h
  all_goals
    go_enter Try.func20, Try.ntmps20
    go_wp2
    go_ret
    exact ⟨rfl, (Fr.refl w).alloc _⟩
theorem rnormal_any (W v : Int) (v0 : 0 ≤ v) (v1 : v < 340282366920938463463374607431768211456) (w : World) :
    Calls Try.prog 20 #[bv W v] w fun e w' => e = .returned (.bool (normB W v)) ∧ Fr w w' := by
  by_cases h : 1 ≤ W ∧ W ≤ 128
  · obtain ⟨n, rfl⟩ := Int.eq_ofNat_of_zero_le (show 0 ≤ W by omega)
    refine (rnormal_in n v (by omega) (by omega) v0 v1 w).mono fun e w' ⟨he, hf⟩ => ⟨?_, hf⟩
    rw [he]
    unfold normB
    rw [Int.toNat_natCast]
    exact ret_bool (decide_eq_decide.2 ⟨fun k => ⟨h.1, h.2, k⟩, fun k => k.2.2⟩)
  · refine (rnormal_out W v (by omega) w).mono fun e w' ⟨he, hf⟩ => ⟨?_, hf⟩
    rw [he]
    unfold normB
    rw [decide_eq_false (fun k => h ⟨k.1, k.2.1⟩)]
end Go.Proofs.Ytglgbhlnfafhjaa
