/- The document's Count: how many trees there are. -/
import Derived.Test.YtonlmennpbklgaaDoorSba
namespace Go.Proofs.YtonlmennpbklgaaDoor
open Go.RowKit
set_option linter.unusedSimpArgs false
set_option linter.unusedVariables false

theorem cntL_snoc : ∀ (l : List T) (k : Int) (s : ByteArray) (n : Int) (ks : List T), cntL (l ++ [.node k s n ks]) = cntL l + 1 + cntL ks
  | [], k, s, n, ks => by simp [cntL, cntT]
  | x :: r, k, s, n, ks => by simp [cntL, cntL_snoc r k s n ks]; omega
def CountC (n : Nat) : Prop := ∀ (l : List T) (A : Option Addr) (c : Nat) (F : Nat → Prop) (w : World), cntL l < n → cntL l ≤ 4611686018427387904 → (∀ b, F b → b < w.heap.size) →
  RdL w F A l → Calls Tryd.prog 17 #[.slice A l.length c] w fun e w' => e = .returned (.int .i64 (cntL l : Int)) ∧ Fr w w'
/-- What is told ahead: the row's length, and what lies within the trees before place j. -/
def RelCo (l : List T) (w : World) (n i : Value) (wr : World) : Prop := ∃ j q : Nat, j ≤ l.length ∧ i = .int .i64 (j : Int) ∧ Fr w wr ∧ n = .int .i64 (q : Int) ∧ q + j = l.length + cntL (l.take j)
theorem cnt_take (l : List T) (j : Nat) : cntL (l.take j) ≤ cntL l := by
  induction l generalizing j with
  | nil => simp
  | cons a r ih => cases j with
    | zero => simp [cntL]
    | succ j => simp [cntL]; exact ih j
set_option maxHeartbeats 3200000 in
set_option maxRecDepth 10000 in
theorem count_step (n : Nat) (ih : CountC n) : CountC (n + 1) := by
  intro l A c F w hn hl hF ha
  have IH := Lib.hid ih
  have HA := Lib.hid ha
  have HF := Lib.hid hF
  have hll := len_le_cnt l
  clear ih ha hF
  go_enter Tryd.func17, Tryd.ntmps17
  go_wp2
  go_loopw [3, 5, 10] (fun q u i wr => RelCo l w q i wr) (fun _ _ i _ => l.length - (intOf i).toNat)
  case atStart => exact ⟨0, l.length, by omega, rfl, Fr.refl w, rfl, by simp [cntL]⟩
  case round =>
    obtain ⟨j, q, hj, rfl, hf, rfl, hq⟩ := hrel
    have HW := Lib.hid hf
    clear hf
    have hct := cnt_take l (j + 1)
    by_cases hlt : j < l.length
    · obtain ⟨b, o, rfl, hbF, ht⟩ := (HA.out.old HW.out HF.out).elem j hlt
      have hcn := cnt_get l j (by omega)
      have HS := Lib.hid (List.take_succ_eq_append_getElem hlt)
      generalize hx : l[j] = x at *
      obtain ⟨k, s, nn, ks⟩ := x
      have HT := cntL_snoc (l.take j) k s nn ks
      rw [← HS.out] at HT
      rw [Nat.mul_comm 4 j] at ht
      unfold RdT at ht
      obtain ⟨A2, c2, hc2, h0, h1, h2, h3, hk⟩ := ht
      have HK := Lib.hid hk
      clear hk
      have hkb : cntL ks ≤ 4611686018427387904 := by simp [cntT] at hcn; omega
      have HR := Lib.hid (fun w1 (hf : Fr wr w1) => IH.out ks A2 c2 F w1 (by simp [cntT] at hcn; omega) (by simp [cntT] at hcn; omega) (fun b h => Nat.lt_of_lt_of_le (HF.out b h) (HW.out.call hf).size)
        (HK.out.mono (fun _ h => h) fun b h => hf.block b (Nat.lt_of_lt_of_le (HF.out b h) HW.out.size)))
      go_wp2_with (go_at_call 17; refine (HR.out _ ((Fr.refl wr).alloc _)).mono ?_; rintro e w4 ⟨rfl, hb4⟩; have HB := Lib.hid (((Fr.refl wr).alloc _).call hb4); clear hb4)
      go_roundw
      case rel => exact ⟨j + 1, q + cntL ks, by omega, rfl, HW.out.call HB.out, by simp, by omega⟩
      case measure => simp [intOf]; omega
    · obtain rfl : j = l.length := by omega
      have HE := Lib.hid (show q = cntL l by rw [List.take_of_length_le (by omega)] at hq; omega)
      go_wp2
      go_ret
      exact ⟨ret_int (by rw [HE.out]), HW.out⟩
theorem count_all : ∀ n : Nat, CountC n
  | 0 => fun l A c F w h => absurd h (by omega)
  | n + 1 => count_step n (count_all n)
/-- Count answers how many trees there are. -/
theorem count_any (l : List T) (A : Option Addr) (c : Nat) (F : Nat → Prop) (w : World) (hl : cntL l ≤ 4611686018427387904) (hF : ∀ b, F b → b < w.heap.size) (ha : RdL w F A l) :
    Calls Tryd.prog 17 #[.slice A l.length c] w fun e w' => e = .returned (.int .i64 (cntL l : Int)) ∧ Fr w w' :=
  count_all (cntL l + 1) l A c F w (by omega) hl hF ha
end Go.Proofs.YtonlmennpbklgaaDoor
