/- Sums in memory; which are normal, as the document has it. -/
import Derived.Test.YtbnaakognnkhdaaGreatDoorNx
namespace Go.Proofs.YtbnaakognnkhdaaGreatDoor
open Go.RowKit
set_option linter.unusedSimpArgs false
set_option linter.unusedVariables false

/-- A sum is normal from its k-th symbol on. -/
def normK (ss : List ByteArray) (ts : List Int) (k : Nat) : Bool :=
  if h : k < ss.length then nameB ss[k] && decide (ts.getD k 0 ≠ 0) && (decide (k = 0) || ltB (ss.getD (k - 1) ⟨#[]⟩) ss[k]) && normK ss ts (k + 1) else true
termination_by ss.length - k
def normB (ss : List ByteArray) (ts : List Int) : Bool := decide (ss.length = ts.length) && decide (ss.length ≤ 16) && normK ss ts 0
theorem normK_at {ss : List ByteArray} {ts : List Int} {k : Nat} (h : k < ss.length) (ht : k < ts.length) : normK ss ts k = (nameB ss[k] && decide (ts[k] ≠ 0) && (decide (k = 0) || ltB (ss.getD (k - 1) ⟨#[]⟩) ss[k]) && normK ss ts (k + 1)) := by
  rw [normK]
  simp [h, List.getD, List.getElem?_eq_getElem ht]
theorem normK_end {ss : List ByteArray} {ts : List Int} : normK ss ts ss.length = true := by rw [normK]; simp
def RelNo (ss : List ByteArray) (ts : List Int) (n : Nat) (i : Value) : Prop := ∃ k : Nat, k ≤ n ∧ i = .int .i64 (k : Int) ∧ normK ss ts 0 = normK ss ts k
set_option maxHeartbeats 3200000 in
theorem normal_any (ss : List ByteArray) (ts : List Int) (off : Int) (A B : Option Addr) (c d n m : Nat) (w : World) (hn : ss.length = n) (hm : ts.length = m) (h1 : SmS ss) (h2 : SmT ts) (ha : Rd strv w A ss) (hb : Rd intv w B ts) :
    Calls Tryz.prog 11 #[.agg #[.slice A n c, .slice B m d, .int .i64 off]] w fun e w' => e = .returned (.bool (normB ss ts)) ∧ Fr w w' := by
  have hl1 : n ≤ 9223372036854775807 := by have := h1.1; omega
  have hl2 : m ≤ 9223372036854775807 := by have := h2.1; omega
  by_cases hlen : n = m
  · subst hlen
    by_cases h16 : n ≤ 16
    · have HX := Lib.hid (show normB ss ts = normK ss ts 0 by unfold normB; rw [hn, hm]; simp [h16])
      have HN := Lib.hid (fun k (h : k < ss.length) w => name_any ss[k] w (Nat.le_trans (h1.2 _ (List.getElem_mem h)) (by decide)))
      have HA := Lib.hid ha
      have HB := Lib.hid hb
      have HLA := Lib.hid hn
      have HLB := Lib.hid hm
      clear ha hb h1 h2 hn hm
      go_enter Tryz.func11, Tryz.ntmps11
      go_wp2
      go_loop [21] (fun i => RelNo ss ts n i) (fun i => n - (intOf i).toNat)
      case atStart => exact ⟨0, Nat.zero_le _, rfl, rfl⟩
      case round =>
        obtain ⟨k, hk, rfl, hq⟩ := hrel
        have HQ := Lib.hid hq
        clear hq
        by_cases hlt : k < n
        · have hka : k < ss.length := by rw [HLA.out]; exact hlt
          have hkb : k < ts.length := by rw [HLB.out]; exact hlt
          obtain ⟨ga, oa, rfl, hga, hca⟩ := HA.out (by omega)
          obtain ⟨gb, ob, rfl, hgb, hcb⟩ := HB.out (by omega)
          have a1 : w.cell? ⟨ga, oa + k, none⟩ = some (.string ss[k]) := hca k hka
          have b1 : w.cell? ⟨gb, ob + k, none⟩ = some (.int .i64 ts[k]) := hcb k hkb
          have HE := Lib.hid (normK_at hka hkb)
          have HNk := Lib.hid (HN.out k hka)
          have HCA := Lib.hid hca
          clear hca hcb
          generalize hs : ss[k] = s at *
          generalize ht : ts[k] = t at *
          clear hs ht hkb
          generalize nameB s = bn at *
          cases bn
          · go_wp2_with (go_at_call 24; refine (HNk.out _).mono ?_; rintro e w' ⟨rfl, rfl⟩)
            go_ret
            exact ⟨ret_bool (by rw [HX.out, HQ.out, HE.out]; rfl), (Fr.refl w).alloc _⟩
          · by_cases h0 : t = 0
            · subst h0
              go_wp2_with (go_at_call 24; refine (HNk.out _).mono ?_; rintro e w' ⟨rfl, rfl⟩)
              go_ret
              exact ⟨ret_bool (by rw [HX.out, HQ.out, HE.out]; simp), (Fr.refl w).alloc _⟩
            · by_cases hk0 : k = 0
              · subst hk0
                simp only [Nat.add_zero] at a1 b1
                go_wp2_with (go_at_call 24; refine (HNk.out _).mono ?_; rintro e w' ⟨rfl, rfl⟩)
                go_round
                case rel => exact ⟨1, by omega, by go_num, by rw [HE.out]; simp [h0]⟩
                case measure => simp [intOf]; omega
              · have a0 : w.cell? ⟨ga, oa + (k - 1), none⟩ = some (.string ss[k - 1]) := HCA.out (k - 1) (by omega)
                have hd : ss.getD (k - 1) ⟨#[]⟩ = ss[k - 1] := by simp [List.getD, List.getElem?_eq_getElem (show k - 1 < ss.length by omega)]
                rw [hd] at HE
                obtain ⟨j, rfl⟩ : ∃ j, k = j + 1 := ⟨k - 1, by omega⟩
                simp only [Nat.add_sub_cancel] at a0 HE
                clear hd
                generalize ss[j] = p at *
                cases hq : Op.bytesLess p.toList s.toList
                · have hql : ltB p s = false := hq
                  rw [hql] at HE
                  clear hql
                  go_wp2_with (go_at_call 24; refine (HNk.out _).mono ?_; rintro e w' ⟨rfl, rfl⟩)
                  go_ret
                  exact ⟨ret_bool (by rw [HX.out, HQ.out, HE.out]; simp), (Fr.refl w).alloc _⟩
                · have hql : ltB p s = true := hq
                  rw [hql] at HE
                  clear hql
                  go_wp2_with (go_at_call 24; refine (HNk.out _).mono ?_; rintro e w' ⟨rfl, rfl⟩)
                  go_round
                  case rel => exact ⟨j + 2, by omega, by go_num, by rw [HQ.out, HE.out]; simp [h0]⟩
                  case measure => simp [intOf]; omega
        · obtain rfl : k = n := by omega
          go_wp2
          go_ret
          exact ⟨ret_bool (by rw [HX.out, HQ.out, ← HLA.out, normK_end]), (Fr.refl w).alloc _⟩
    · have HX := Lib.hid (show normB ss ts = false by unfold normB; rw [hn]; simp [h16])
      clear ha hb h1 h2 hn hm
      go_enter Tryz.func11, Tryz.ntmps11
      go_wp2
      go_ret
      exact ⟨ret_bool (by rw [HX.out]), (Fr.refl w).alloc _⟩
  · have HX := Lib.hid (show normB ss ts = false by unfold normB; rw [hn, hm]; simp [hlen])
    clear ha hb h1 h2 hn hm
    go_enter Tryz.func11, Tryz.ntmps11
    go_wp2
    go_ret
    exact ⟨ret_bool (by rw [HX.out]), (Fr.refl w).alloc _⟩
end Go.Proofs.YtbnaakognnkhdaaGreatDoor
