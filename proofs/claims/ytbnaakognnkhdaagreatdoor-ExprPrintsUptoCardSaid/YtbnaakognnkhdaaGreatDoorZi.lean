/- A map's keys, sorted; a copy of a string. -/
import Derived.Test.YtbnaakognnkhdaaGreatDoorZh
import Derived.Test.YtbnaakognnkhdaaGreatDoorIter
import Derived.Test.YtbnaakognnkhdaaGreatDoorShelf
namespace Go.Proofs.YtbnaakognnkhdaaGreatDoor
open Go.RowKit
set_option linter.unusedSimpArgs false
set_option linter.unusedVariables false

theorem keys_any (mb : Option Nat) (w : World) : Calls Tryz.prog 33 #[.map mb] w fun e w' => e = .returned (.func (.func 47) #[] #[.pointer (some ⟨w.heap.size, 0, none⟩)]) ∧ w' = w.alloc (.cells #[.map mb] 44) :=
  callsIn_wide.1 (Tryz.maps_Keys_33 mb w)
theorem enc_keys (P : List (ByteArray × Int)) : (P.map fun x => x.1.data.toList).map encStr = (fsts P).map strv := by
  simp [fsts, encStr, strv, Function.comp_def]
theorem sorted_any (mb : Option Nat) (P : List (ByteArray × Int)) (w : World) (hM : MapP w mb P) (hP : ascP P) (hl : P.length ≤ 100000) :
    Calls Tryz.prog 32 #[.func (.func 47) #[] #[.pointer (some ⟨w.heap.size, 0, none⟩)]] (w.alloc (.cells #[.map mb] 44)) fun e w' =>
      ∃ A c, e = .returned (.slice A P.length c) ∧ Rd strv w' A (fsts P) ∧ InF (fun g => w.heap.size < g) A P.length ∧ Fr (w.alloc (.cells #[.map mb] 44)) w' := by
  cases mb with
  | none =>
    obtain rfl : P = [] := hM
    refine (callsIn_wide.1 (Tryz.slices_Sorted_keys_nil_32_33 w)).mono ?_
    rintro e w' ⟨v, ss, rfl, rfl, hrow, hnil, hb⟩
    obtain rfl : v = .slice none 0 0 := hnil.2 rfl
    exact ⟨none, 0, rfl, Rd.nil, fun h => absurd h (by simp), hb⟩
  | some b =>
    refine (callsIn_wide.1 (Tryz.slices_Sorted_keys_32_33 b _ (dP P) _ w hM (by rw [size_dP]; unfold maxLen; omega) (by rw [size_dP]; omega))).mono ?_
    rintro e w' ⟨v, ss, rfl, hS, hrow, hnil, hb⟩
    have e1 : ss.mergeSort (fun x y => decide (x ≤ y)) = P.map fun x => x.1.data.toList := sorted_keys hP hS
    have e2 : ss.length = P.length := by rw [hS.length_eq, keys_dP]; simp
    rw [e1, e2, enc_keys] at hrow
    have hlen : (fsts P).length = P.length := by simp [fsts]
    have hown : Own strv w' (w.alloc (.cells #[.map (some b)] 44)).heap.size 9 v (fsts P) := by
      unfold Own; rw [hlen]; exact hrow
    obtain ⟨A, c, rfl, _, _, hr⟩ := hown.val
    rw [hlen]
    refine ⟨A, c, rfl, hr, fun h0 => ?_, hb⟩
    obtain ⟨g, o, rfl, hg, _⟩ := hr (by rw [hlen]; exact h0)
    have := (World.ownsRow.lt hown g rfl).1
    exact ⟨g, o, none, rfl, by simp at this; omega⟩
set_option maxHeartbeats 400000 in
theorem clone_any (s : ByteArray) (w : World) (hs : s.size ≤ 281474976710656) : Calls Tryz.prog 34 #[.string s] w fun e w' => e = .returned (.string s) ∧ Fr w w' := by
  have hc : ∀ w, Calls Tryz.prog 48 #[.string s] w fun e w' => e = .returned (.string s) ∧ Below w.heap.size w w' := fun w => Tryz.stringslite_Clone s w hs
  go_enter Tryz.func34, Tryz.ntmps34
  go_wp2_with (go_at_call 48; refine (hc _).mono ?_; rintro e w1 ⟨rfl, hf1⟩)
  go_ret
  exact ⟨rfl, hf1⟩
end Go.Proofs.YtbnaakognnkhdaaGreatDoor
