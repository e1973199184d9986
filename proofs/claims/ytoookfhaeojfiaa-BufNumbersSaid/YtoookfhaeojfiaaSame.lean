/- Bytes as text; Same. -/
import Derived.Test.YtoookfhaeojfiaaPut
import Derived.Laws.BytesArg
import Derived.Lib.Bytes
namespace Go.Proofs.Ytoookfhaeojfiaa
open Go.RowKit

theorem conv_rd {P : Program} {A : Option Addr} {l : List Int} {w : World} (h : Rd u8v w A l) (c : Nat) {src e dst : TypeId} (hs : P.underlying src = some (.slice e)) (he : P.underlying e = some (.int .u8)) (hd : P.underlying dst = some .string) :
    (convert src dst (.slice A l.length c)).run P w = .ok (.string (strOfNums l)) w := by
  by_cases h0 : 0 < l.length
  · obtain ⟨g, o, rfl, _, hc⟩ := h h0
    exact run_convert_bytes_arg w src e hs he g o l.length c l rfl (fun i hi => by rw [hc i hi, List.getD, List.getElem?_eq_getElem hi]; rfl) dst hd
  · obtain rfl : l = [] := List.eq_nil_of_length_eq_zero (by omega)
    cases A with
    | none => exact run_convert_bytes_nil w src e hs he _ c dst hd
    | some ad =>
      rw [run_convert_bytes_string w src dst e _ _ c hs he hd]
      simp [Conv.bytesToString, loadCells]
      rfl
theorem conv_rd' {P : Program} {A : Option Addr} {l : List Int} {w : World} (h : Rd u8v w A l) (m c : Nat) (hm : l.length = m) {src e dst : TypeId} (hs : P.underlying src = some (.slice e)) (he : P.underlying e = some (.int .u8)) (hd : P.underlying dst = some .string) :
    (convert src dst (.slice A m c)).run P w = .ok (.string (strOfNums l)) w := by
  subst hm; exact conv_rd h c hs he hd
theorem byte_inj {x y : Int} (hx : 0 ≤ x ∧ x < 256) (hy : 0 ≤ y ∧ y < 256) (h : UInt8.ofNat x.toNat = UInt8.ofNat y.toNat) : x = y := by
  have e : (UInt8.ofNat x.toNat).toNat = (UInt8.ofNat y.toNat).toNat := by rw [h]
  simp at e
  omega
theorem bytes_inj : ∀ {l m : List Int}, By l → By m → (l.map fun n => UInt8.ofNat n.toNat) = (m.map fun n => UInt8.ofNat n.toNat) → l = m
  | [], [], _, _, _ => rfl
  | [], _ :: _, _, _, h => by cases h
  | _ :: _, [], _, _, h => by cases h
  | x :: l, y :: m, hl, hm, h => by
    simp only [List.map_cons, List.cons.injEq] at h
    rw [byte_inj (hl x List.mem_cons_self) (hm y List.mem_cons_self) h.1, bytes_inj (fun z hz => hl z (List.mem_cons_of_mem _ hz)) (fun z hz => hm z (List.mem_cons_of_mem _ hz)) h.2]
theorem str_eq {l m : List Int} (hl : By l) (hm : By m) : ((strOfNums l).toList == (strOfNums m).toList) = decide (l = m) := by
  rw [Lib.strOfNums_toList, Lib.strOfNums_toList]
  by_cases h : l = m
  · subst h; simp
  · have : ¬ Lib.bytesOf l = Lib.bytesOf m := fun k => h (bytes_inj hl hm k)
    simp [h, this]
set_option maxHeartbeats 1600000 in
theorem same_any (A B : Option Addr) (c d : Nat) (l m : List Int) (hl : By l) (hm : By m) (w : World) (ha : Rd u8v w A l) (hb : Rd u8v w B m) :
    Calls Try.prog 12 #[.slice A l.length c, .slice B m.length d] w fun e w' => e = .returned (.bool (decide (l = m))) ∧ w = w' := by
  have ka := conv_rd ha c Try.underlying22 Try.underlying5 Try.underlying9
  have kb := conv_rd hb d Try.underlying22 Try.underlying5 Try.underlying9
  have HI := Lib.hid (str_eq hl hm)
  have ea : l.length = l.length := rfl
  generalize strOfNums l = S at *
  generalize strOfNums m = T at *
  clear ha hb hl hm
  go_enter Try.func12, Try.ntmps12
  go_wp2
  go_ret
  exact ⟨ret_bool HI.out, rfl⟩
end Go.Proofs.Ytoookfhaeojfiaa
