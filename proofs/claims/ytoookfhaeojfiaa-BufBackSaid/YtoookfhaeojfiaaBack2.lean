/- BufBack answers true for bytes that read as a list. -/
import Derived.Test.YtoookfhaeojfiaaBalive
import Derived.Test.YtoookfhaeojfiaaLit
import Derived.Deep.RegionHeld3
import Derived.Deep.QuietTactic
import Derived.BigQuiet
import Derived.Deep.DeepCutAuto
import Derived.Deep.CutBlock
namespace Go.Proofs.Ytoookfhaeojfiaa
open Go.RowKit

theorem pair_keep {w w' : World} {g : Nat} {p n : Value} (h : Fr w w') (h0 : w.cell? ⟨g, 0, none⟩ = some p) (h1 : w.cell? ⟨g, 1, none⟩ = some n) :
    Fr w w' ∧ w'.cell? ⟨g, 0, none⟩ = some p ∧ w'.cell? ⟨g, 1, none⟩ = some n := ⟨h, h.get h0, h.get h1⟩
theorem pair_cells (w : World) (t : TypeId) (p n : Value) : (w.alloc (.cells #[p, n] t)).cell? ⟨w.heap.size, 0, none⟩ = some p ∧ (w.alloc (.cells #[p, n] t)).cell? ⟨w.heap.size, 1, none⟩ = some n :=
  ⟨cell_of_row (w.alloc (.cells #[p, n] t)) w.heap.size 0 #[p, n] t (0, 0) (heap_alloc_new w _), cell_of_row (w.alloc (.cells #[p, n] t)) w.heap.size 1 #[p, n] t (0, 0) (heap_alloc_new w _)⟩
theorem putI_by {l : List Int} (hb : By l) (a k : Nat) (v : Int) : By (putI l a k v) := ((hb.take a).app (litI_by k v)).app (hb.drop (a + k))
theorem putI_got (l : List Int) (a k : Nat) (v : Int) (h : a + k ≤ l.length) : ((putI l a k v).drop a).take k = litI k v := by
  unfold putI
  rw [List.append_assoc, List.drop_append_of_le_length (by simp; omega), List.drop_of_length_le (by simp; omega), List.nil_append, List.take_append_of_le_length (by rw [litI_length]; omega), List.take_of_length_le (by rw [litI_length]; omega)]
theorem putI_else (l : List Int) (a k : Nat) (v : Int) (h : a + k ≤ l.length) (i : Nat) (hi : i < a ∨ a + k ≤ i) : (putI l a k v)[i]? = l[i]? := by
  unfold putI
  rcases hi with hi | hi
  · rw [List.append_assoc, List.getElem?_append_left (by simp; omega), List.getElem?_take_of_lt hi]
  · rw [List.getElem?_append_right (by simp [litI_length]; omega), List.getElem?_drop]
    congr 1
    simp [litI_length]; omega
def RelB (m : Nat) (w : World) (i : Value) (wr : World) : Prop := ∃ j : Nat, j ≤ m ∧ i = .int .i64 (j : Int) ∧ Fr w wr
set_option maxHeartbeats 1600000 in
theorem back_no (A : Option Addr) (c : Nat) (p n v : Int) (l : List Int) (hm : l.length ≤ 140737488351232) (v0 : 0 ≤ v) (v1 : v < 18446744073709551616) (hl : ¬ Lies l.length p n) (w : World) (hr : Rd u8v w A l) :
    Calls Try.prog 4 #[.slice A l.length c, .agg #[.int .i64 p, .int .i64 n], .int .u64 v] w fun e w' => e = .returned (.bool true) ∧ Fr w w' := by
  have HA := Lib.hid alive
  have hmm : l.length ≤ maxLen := by unfold maxLen; omega
  have HR := Lib.hid hr
  clear hr
  have HP := Lib.hid (fun A m c (hm : m ≤ maxLen) (h : ¬ Lies m p n) wx => put_no A m c p n v hm h wx)
  go_enter Try.func4, Try.ntmps4
  go_wp2_with (first
    | (go_at_call 7; refine (HA.out _).mono ?_; rintro e w1 ⟨rfl, hf1⟩; have HF1 := Lib.hid hf1; clear hf1))
  have HC0 := Lib.hid (HF1.out.get (pair_cells w _ _ _).1)
  have HC1 := Lib.hid (HF1.out.get (pair_cells w _ _ _).2)
  have HF0 := Lib.hid (Fr.call ((Fr.refl w).alloc _) HF1.out)
  have HR1 := Lib.hid (HR.out.fr HF0.out)
  go_region_held3 (fun wx => Fr w1 wx ∧ wx.cell? ⟨w.heap.size, 0, none⟩ = some (.int .i64 p) ∧ wx.cell? ⟨w.heap.size, 1, none⟩ = some (.int .i64 n)) ((refine pair_keep ?_ HC0.out HC1.out; first | exact (Fr.refl _).drew | exact ((Fr.refl _).alloc _).drew | exact HF2.out)) (first
    | (go_at_call 10; refine (HP.out _ _ _ hmm hl _).mono ?_; rintro e w3 ⟨rfl, rfl⟩)
    | (refine step_append_rd one_u8' _ rfl (.tmp 15) (.tmp 16) 22 rfl w1.heap.size 5 Try.underlying22 Try.info5 rfl (.slice (some ⟨w1.heap.size, 0, none⟩) 0 0) [] rfl (own_new w1).drew A l.length c l rfl rfl (HR1.out.alloc _).drew (by simp; unfold maxLen; omega) (by simp; omega) (by simp) ?_; intro x2 w2 HG; have HF2 := Lib.hid (HG.out.fr ((Fr.refl w1).alloc _).drew (Nat.le_refl _) (own_new w1).base_le); obtain ⟨A2, c2, rfl, _, _, _⟩ := HG.out.own.val; clear HG))
  go_wp2
  go_ret
  exact ⟨rfl, HF0.out.call HF2.out⟩
set_option maxHeartbeats 3200000 in
theorem back_yes (A : Option Addr) (c : Nat) (a k : Nat) (v : Int) (l : List Int) (hb : By l) (hm : l.length ≤ 140737488351232) (v0 : 0 ≤ v) (v1 : v < 18446744073709551616) (hl : Lies l.length a k) (w : World) (hr : Rd u8v w A l) :
    Calls Try.prog 4 #[.slice A l.length c, .agg #[.int .i64 (a : Int), .int .i64 (k : Int)], .int .u64 v] w fun e w' => e = .returned (.bool true) ∧ Fr w w' := by
  have HA := Lib.hid alive
  have hmm : l.length ≤ maxLen := by unfold maxLen; omega
  have HR := Lib.hid hr
  clear hr
  obtain ⟨h1, h2, h3, h4⟩ := id hl
  have hla : a + k ≤ l.length := by omega
  have hk1 : 1 ≤ k := by omega
  have hk8 : k ≤ 8 := by omega
  clear h1 h2 h3 h4
  have HP := Lib.hid (fun A c wx hr => put_yes A c a k l v v0 v1 hm hl wx hr)
  go_enter Try.func4, Try.ntmps4
  go_wp2_with (first
    | (go_at_call 7; refine (HA.out _).mono ?_; rintro e w1 ⟨rfl, hf1⟩; have HF1 := Lib.hid hf1; clear hf1))
  have HC0 := Lib.hid (HF1.out.get (pair_cells w _ _ _).1)
  have HC1 := Lib.hid (HF1.out.get (pair_cells w _ _ _).2)
  have HF0 := Lib.hid (Fr.call ((Fr.refl w).alloc _) HF1.out)
  have HR1 := Lib.hid (HR.out.fr HF0.out)
  go_region_held3 (fun wx => Fr w1 wx ∧ wx.cell? ⟨w.heap.size, 0, none⟩ = some (.int .i64 (a : Int)) ∧ wx.cell? ⟨w.heap.size, 1, none⟩ = some (.int .i64 (k : Int))) ((refine pair_keep ?_ HC0.out HC1.out; first | exact (Fr.refl _).drew | exact ((Fr.refl _).alloc _).drew | exact HF2.out.call HF3.out | exact HF2.out)) (first
    | (go_at_call 10; refine (HP.out _ _ _ HR2.out).mono ?_; rintro e w3 ⟨x3, rfl, g, rfl, hg3, hbl, hf3⟩; have HG3 := Lib.hid hg3; have HBL := Lib.hid hbl; have HF3 := Lib.hid hf3; clear hg3 hbl hf3)
    | (refine step_append_rd one_u8' _ rfl (.tmp 15) (.tmp 16) 22 rfl w1.heap.size 5 Try.underlying22 Try.info5 rfl (.slice (some ⟨w1.heap.size, 0, none⟩) 0 0) [] rfl (own_new w1).drew A l.length c l rfl rfl (HR1.out.alloc _).drew (by simp; unfold maxLen; omega) (by simp; omega) (by simp) ?_; intro x2 w2 HG; have HF2 := Lib.hid (HG.out.fr ((Fr.refl w1).alloc _).drew (Nat.le_refl _) (own_new w1).base_le); obtain ⟨A2, c2, rfl, _, _, hr2⟩ := HG.out.own.val; have HR2 := Lib.hid hr2; clear hr2; clear HG))
  go_wp2_with fail
  have EL := Lib.hid (putI_length l a k v hla)
  have HGT := Lib.hid (get_yes (some ⟨g, 0, none⟩) (putI l a k v).length a k (putI l a k v) (putI_by hb a k v) (by rw [EL.out]; exact hmm) (by rw [EL.out]; exact hl) w3 HBL.out.rd)
  have HEL := Lib.hid (putI_else l a k v hla)
  rw [putI_got l a k v hla, leI_litI] at HGT
  generalize putI l a k v = L at *
  refine HGT.out.mono ?_
  rintro e w4 ⟨rfl, rfl⟩
  have hL : L.length = l.length := EL.out
  rw [hL]
  clear hb
  obtain ⟨hF3, hC0, hC1⟩ := ‹Fr w1 w3 ∧ _›
  have HFw := Lib.hid hF3
  have HCx0 := Lib.hid hC0
  have HCx1 := Lib.hid hC1
  have hpp := p8_pos k
  have hwr : k < 8 → IntKind.u64.wrap (2 ^ (8 * k)) = p8 k := fun h => by
    have h1 := p8_le (show k ≤ 7 by omega)
    have h2 : p8 7 = 72057594037927936 := by decide
    rw [IntKind.wrap_u64, ← p8_two]
    exact Int.emod_eq_of_lt (by omega) (by omega)
  have hmd : ¬ k < 8 → v % p8 k = v := fun h => by
    obtain rfl : k = 8 := by omega
    rw [p8_eight]; exact Int.emod_eq_of_lt v0 v1
  generalize p8 k = P at *
  have hP0 : ¬ P = 0 := by omega
  clear hF3
  have HK1 := Lib.hid hk1
  have HLA := Lib.hid hla
  by_cases h8 : k < 8
  case' pos =>
    have e1 := hwr h8
    have e2 : ((k : Int) == 8) = false := by simp; omega
    clear hwr hmd
    go_wp2
    clear e2
  case' neg =>
    have e1 := hmd h8
    have e2 : ((k : Int) == 8) = true := by simp; omega
    rw [e1]
    clear hwr hmd e1
    go_wp2
    clear e2
  all_goals
    go_loopw [81] (fun i wr => RelB l.length w3 i wr) (fun i _ => l.length - (intOf i).toNat)
    case atStart => exact ⟨0, by omega, rfl, Fr.refl _⟩
    case round =>
      obtain ⟨j, hj, rfl, hfr⟩ := hrel
      have hc0 : wr.cell? ⟨w.heap.size, 0, none⟩ = some (.int .i64 (a : Int)) := hfr.get HCx0.out
      have hc1 : wr.cell? ⟨w.heap.size, 1, none⟩ = some (.int .i64 (k : Int)) := hfr.get HCx1.out
      have HFR := Lib.hid hfr
      clear hfr
      by_cases hlt : j < l.length
      · obtain ⟨gb, ob, rfl, _, hcb⟩ := (((HR1.out.fr HFw.out).fr HFR.out) : Rd u8v wr A l) (by omega)
        have hb1 := hcb j hlt
        have hL1 := (HBL.out.fr HFR.out).cell (i := j) (by have := EL.out; omega)
        have hla := HLA.out
        have hsum : IntKind.i64.wrap ((a : Int) + (k : Int)) = (a : Int) + (k : Int) := by rw [IntKind.wrap_i64]; omega
        by_cases hc : j < a ∨ a + k ≤ j
        · have he : L[j]'(by have := EL.out; omega) = l[j] := by
            have h := HEL.out j hc
            rw [List.getElem?_eq_getElem (by have := EL.out; omega), List.getElem?_eq_getElem hlt] at h
            exact Option.some.inj h
          rw [he] at hL1
          generalize l[j] = X at *
          clear he hcb
          rcases hc with hc | hc
          all_goals
            first
              | have hd : decide ((j : Int) < (a : Int)) = true := by simp; omega
              | (have hd : decide (j < a) = false := by simp; omega
                 have hd2 : decide ((a : Int) + (k : Int) ≤ (j : Int)) = true := by simp; omega)
            go_wp2
            go_quiet (fail)
            all_goals go_wp2
            go_roundw
            case rel => exact ⟨j + 1, by omega, by go_num, HFR.out.drewN _⟩
            case measure => simp [intOf]; omega
        · have hd : decide (j < a) = false := by simp; omega
          have hd2 : decide ((a : Int) + (k : Int) ≤ (j : Int)) = false := by simp; omega
          generalize l[j] = X at *
          clear hcb hL1
          go_wp2
          go_quiet (fail)
          all_goals go_wp2
          go_roundw
          case rel => exact ⟨j + 1, by omega, by go_num, HFR.out.drewN _⟩
          case measure => simp [intOf]; omega
      · have hge : (l.length : Int) ≤ (j : Int) := by omega
        go_wp2
        go_ret
        exact ⟨rfl, ((HF0.out.call HFw.out).call HFR.out)⟩
theorem back_walk (A : Option Addr) (c : Nat) (p n v : Int) (l : List Int) (hb : By l) (hm : l.length ≤ 140737488351232) (v0 : 0 ≤ v) (v1 : v < 18446744073709551616) (w : World) (hr : Rd u8v w A l) :
    Calls Try.prog 4 #[.slice A l.length c, .agg #[.int .i64 p, .int .i64 n], .int .u64 v] w fun e w' => e = .returned (.bool true) ∧ Fr w w' := by
  by_cases hl : Lies l.length p n
  · obtain ⟨a, rfl⟩ := Int.eq_ofNat_of_zero_le hl.2.2.1
    obtain ⟨k, rfl⟩ := Int.eq_ofNat_of_zero_le (show 0 ≤ n by have := hl.1; omega)
    exact back_yes A c a k v l hb hm v0 v1 hl w hr
  · exact back_no A c p n v l hm v0 v1 hl w hr
end Go.Proofs.Ytoookfhaeojfiaa
