/- The document's Deep: how deep the lists are. -/
import Derived.Test.YtonlmennpbklgaaDoorSba
namespace Go.Proofs.YtonlmennpbklgaaDoor
open Go.RowKit
set_option linter.unusedSimpArgs false
set_option linter.unusedVariables false

/-- How deep the lists are. -/
def depL : List T → Nat
  | [] => 0
  | .node k _ _ ks :: r => max (if k = 4 then depL ks + 1 else 0) (depL r)
theorem depL_snoc : ∀ (l : List T) (k : Int) (s : ByteArray) (n : Int) (ks : List T), depL (l ++ [.node k s n ks]) = max (depL l) (if k = 4 then depL ks + 1 else 0)
  | [], k, s, n, ks => by simp [depL]
  | .node k' s' n' ks' :: r, k, s, n, ks => by simp only [List.cons_append, depL, depL_snoc r k s n ks]; omega
theorem dep_le_cnt : ∀ l : List T, depL l ≤ cntL l
  | [] => by simp [depL]
  | .node k s n ks :: r => by
    have h1 := dep_le_cnt ks
    have h2 := dep_le_cnt r
    unfold depL
    simp only [cntL, cntT]
    split <;> omega
def DeepC (n : Nat) : Prop := ∀ (l : List T) (A : Option Addr) (c : Nat) (F : Nat → Prop) (w : World), cntL l < n → cntL l ≤ 4611686018427387904 → (∀ b, F b → b < w.heap.size) →
  RdL w F A l → Calls Tryd.prog 18 #[.slice A l.length c] w fun e w' => e = .returned (.int .i64 (depL l : Int)) ∧ Fr w w'
def RelDe (l : List T) (w : World) (m i : Value) (wr : World) : Prop := ∃ j : Nat, j ≤ l.length ∧ i = .int .i64 (j : Int) ∧ Fr w wr ∧ m = .int .i64 (depL (l.take j) : Int)
set_option maxHeartbeats 3200000 in
set_option maxRecDepth 10000 in
theorem deep_step (n : Nat) (ih : DeepC n) : DeepC (n + 1) := by
  intro l A c F w hn hl hF ha
  have IH := Lib.hid ih
  have HA := Lib.hid ha
  have HF := Lib.hid hF
  have hll := len_le_cnt l
  clear ih ha hF
  go_enter Tryd.func18, Tryd.ntmps18
  go_wp2
  go_loopw [3, 5, 6, 9] (fun m u v i wr => RelDe l w m i wr) (fun _ _ _ i _ => l.length - (intOf i).toNat)
  case atStart => exact ⟨0, by omega, rfl, Fr.refl w, by simp [depL]⟩
  case round =>
    obtain ⟨j, hj, rfl, hf, rfl⟩ := hrel
    have HW := Lib.hid hf
    clear hf
    by_cases hlt : j < l.length
    · obtain ⟨b, o, rfl, hbF, ht⟩ := (HA.out.old HW.out HF.out).elem j hlt
      have hcn := cnt_get l j (by omega)
      have HS := Lib.hid (List.take_succ_eq_append_getElem hlt)
      generalize hx : l[j] = x at *
      obtain ⟨k, s, nn, ks⟩ := x
      have HT := Lib.hid (depL_snoc (l.take j) k s nn ks)
      rw [← HS.out] at HT
      generalize hdm : depL (l.take j) = dm at *
      rw [Nat.mul_comm 4 j] at ht
      unfold RdT at ht
      obtain ⟨A2, c2, hc2, h0, h1, h2, h3, hk⟩ := ht
      have HK := Lib.hid hk
      clear hk
      have HD := Lib.hid (dep_le_cnt ks)
      have HR := Lib.hid (fun w1 (hf : Fr wr w1) => IH.out ks A2 c2 F w1 (by simp [cntT] at hcn; omega) (by simp [cntT] at hcn; omega) (fun b h => Nat.lt_of_lt_of_le (HF.out b h) (HW.out.call hf).size)
        (HK.out.mono (fun _ h => h) fun b h => hf.block b (Nat.lt_of_lt_of_le (HF.out b h) HW.out.size)))
      by_cases hk4 : k = 4
      · have hdk : depL ks ≤ 4611686018427387904 := by have := HD.out; simp [cntT] at hcn; omega
        generalize hde : depL ks = de at *
        by_cases hgt : dm < de + 1
        · have HM := Lib.hid (show depL (l.take (j + 1)) = de + 1 by rw [HT.out, if_pos hk4]; omega)
          subst hk4
          go_wp2_with (go_at_call 18; refine (HR.out _ ((Fr.refl wr).alloc _)).mono ?_; rintro e w4 ⟨rfl, hb4⟩; have HB := Lib.hid (((Fr.refl wr).alloc _).call hb4); clear hb4)
          go_roundw
          case rel => exact ⟨j + 1, by omega, rfl, HW.out.call HB.out, by rw [HM.out]; rfl⟩
          case measure => simp [intOf]; omega
        · have HM := Lib.hid (show depL (l.take (j + 1)) = dm by rw [HT.out, if_pos hk4]; omega)
          subst hk4
          go_wp2_with (go_at_call 18; refine (HR.out _ ((Fr.refl wr).alloc _)).mono ?_; rintro e w4 ⟨rfl, hb4⟩; have HB := Lib.hid (((Fr.refl wr).alloc _).call hb4); clear hb4)
          go_roundw
          case rel => exact ⟨j + 1, by omega, rfl, HW.out.call HB.out, by rw [HM.out]⟩
          case measure => simp [intOf]; omega
      · have HM := Lib.hid (show depL (l.take (j + 1)) = dm by rw [HT.out, if_neg hk4]; omega)
        go_wp2
        go_roundw
        case rel => exact ⟨j + 1, by omega, rfl, HW.out.call ((Fr.refl wr).alloc _), by rw [HM.out]⟩
        case measure => simp [intOf]; omega
    · obtain rfl : j = l.length := by omega
      have HE := Lib.hid (show depL (l.take l.length) = depL l by rw [List.take_of_length_le (by omega)])
      go_wp2
      go_ret
      exact ⟨ret_int (by rw [HE.out]), HW.out⟩
theorem deep_all : ∀ n : Nat, DeepC n
  | 0 => fun l A c F w h => absurd h (by omega)
  | n + 1 => deep_step n (deep_all n)
/-- Deep answers how deep the lists are. -/
theorem deep_any (l : List T) (A : Option Addr) (c : Nat) (F : Nat → Prop) (w : World) (hl : cntL l ≤ 4611686018427387904) (hF : ∀ b, F b → b < w.heap.size) (ha : RdL w F A l) :
    Calls Tryd.prog 18 #[.slice A l.length c] w fun e w' => e = .returned (.int .i64 (depL l : Int)) ∧ Fr w w' :=
  deep_all (cntL l + 1) l A c F w (by omega) hl hF ha
end Go.Proofs.YtonlmennpbklgaaDoor
