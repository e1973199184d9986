/- The document's Same, at regions that are the same. -/
import Derived.Test.YtelfokoibmpdlaaMi
import Derived.Test.YtelfokoibmpdlaaMc
import Derived.Laws.BytesArg
import Derived.Lib.Bytes
namespace Go.Proofs.Ytelfokoibmpdlaa
open Go.RowKit
set_option linter.unusedSimpArgs false
set_option linter.unusedVariables false

theorem conv_n {P : Program} {A : Option Addr} {l : List Nat} {w : World} (h : Rd u8n w A l) (m c : Nat) (hm : l.length = m) {src e dst : TypeId} (hs : P.underlying src = some (.slice e)) (he : P.underlying e = some (.int .u8)) (hd : P.underlying dst = some .string) :
    (convert src dst (.slice A m c)).run P w = .ok (.string (strOfNums (l.map fun x : Nat => (x : Int)))) w := by
  subst hm
  by_cases h0 : 0 < l.length
  · obtain ⟨g, o, rfl, _, hc⟩ := h h0
    exact run_convert_bytes_arg w src e hs he g o l.length c (l.map fun x : Nat => (x : Int)) (by simp) (fun i hi => by
      have hi : i < l.length := by simpa using hi
      rw [hc i hi, List.getD, List.getElem?_eq_getElem (by simpa using hi)]; simp [u8n]) dst hd
  · obtain rfl : l = [] := List.eq_nil_of_length_eq_zero (by omega)
    cases A with
    | none => exact run_convert_bytes_nil w src e hs he _ c dst hd
    | some ad =>
      rw [List.length_nil, run_convert_bytes_string w src dst e _ _ c hs he hd]
      simp [Conv.bytesToString, loadCells]
      rfl
set_option maxHeartbeats 1600000 in
theorem same2_any (A B : Option Addr) (c d : Nat) (l : List Nat) (w : World) (ha : Rd u8n w A l) (hb : Rd u8n w B l) :
    Calls Try.prog 18 #[.slice A l.length c, .slice B l.length d] w fun e w' => e = .returned (.bool true) ∧ w = w' := by
  have ka := conv_n ha l.length c rfl Try.underlying44 Try.underlying5 Try.underlying9
  have kb := conv_n hb l.length d rfl Try.underlying44 Try.underlying5 Try.underlying9
  generalize strOfNums (l.map fun x : Nat => (x : Int)) = S at *
  clear ha hb
  go_enter Try.func18, Try.ntmps18
  go_wp2
  go_ret
  exact ⟨ret_bool (by simp), rfl⟩
def RelSa (l : List Rg) (w : World) (i : Value) (wr : World) : Prop := ∃ k : Nat, i = .int .i64 (k : Int) ∧ k ≤ l.length ∧ Fr w wr
set_option maxHeartbeats 6400000 in
set_option maxRecDepth 100000 in
theorem rsame_any (A B : Option Addr) (c d : Nat) (l : List Rg) (w : World) (hlen : l.length ≤ maxLen) (ha : RowOf RgAt 3 w A l) (hb : RowOf RgAt 3 w B l) :
    Calls Try.prog 11 #[.slice A l.length c, .slice B l.length d] w fun e w' => e = .returned (.bool true) ∧ Fr w w' := by
  unfold maxLen at hlen
  have HA := Lib.hid ha
  have HB := Lib.hid hb
  clear ha hb
  go_enter Try.func11, Try.ntmps11
  go_wp2
  go_loopw [13] (fun i wr => RelSa l w i wr) (fun i _ => l.length - (intOf i).toNat)
  case atStart => exact ⟨0, rfl, by omega, Fr.refl w⟩
  case round =>
    obtain ⟨k, rfl, hk, hf⟩ := hrel
    have HF := Lib.hid hf
    by_cases hlt : k < l.length
    · obtain ⟨b, o, rfl, hx⟩ := (HA.out.fr (fun _ _ _ h => h.fr hf)).at hlt
      obtain ⟨b', o', rfl, hy⟩ := (HB.out.fr (fun _ _ _ h => h.fr hf)).at hlt
      rw [Nat.mul_comm 3 k] at hx hy
      obtain ⟨s, hs, c0, c1, c2⟩ := hx
      obtain ⟨t, ht, d0, d1, d2⟩ := hy
      have ka := fun ex : Ext wr => conv_n (hs.rd.fr ex.fr) _ s.2 rfl Try.underlying44 Try.underlying5 Try.underlying9
      have kb := fun ex : Ext wr => conv_n (ht.rd.fr ex.fr) _ t.2 rfl Try.underlying44 Try.underlying5 Try.underlying9
      simp only at ka kb
      generalize strOfNums ((l[k]).bs.map fun x : Nat => (x : Int)) = S at *
      clear hs ht
      generalize (l[k]).pl = pl at *
      generalize (l[k]).pm = pm at *
      generalize (l[k]).bs.length = n at *
      have hki : (k : Int) < (l.length : Int) := by omega
      have a0 := fun ex : Ext wr => ex.get c0
      have a1 := fun ex : Ext wr => ex.get c1
      have a2 := fun ex : Ext wr => ex.get c2
      have b0 := fun ex : Ext wr => ex.get d0
      have b1 := fun ex : Ext wr => ex.get d1
      have b2 := fun ex : Ext wr => ex.get d2
      clear c0 c1 c2 d0 d1 d2 hf
      go_wp2_with fail
      refine wp_region_ext (by kernel_rfl) (by kernel_rfl) ?_
      repeat (go_big_quiet_step (fail))
      refine wpQuiet_nil ?_
      intro w4 hw4
      obtain ⟨y4, hy4⟩ := hw4
      have hb4 : Fr wr w4 := by rw [hy4]; exact y4.fr
      have HB4 := Lib.hid hb4
      clear hy4 y4 hb4
      go_wp2
      go_roundw
      case rel => exact ⟨k + 1, rfl, by omega, HF.out.call HB4.out⟩
      case measure => simp [intOf]; omega
    · obtain rfl : k = l.length := by omega
      go_wp2
      go_ret
      exact ⟨rfl, HF.out⟩
end Go.Proofs.Ytelfokoibmpdlaa
