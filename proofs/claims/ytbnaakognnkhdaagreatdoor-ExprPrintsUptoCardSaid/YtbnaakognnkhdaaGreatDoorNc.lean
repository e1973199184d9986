/- Are two sums the same? The document's Same. -/
import Derived.Test.YtbnaakognnkhdaaGreatDoorNb
namespace Go.Proofs.YtbnaakognnkhdaaGreatDoor
open Go.RowKit
set_option linter.unusedSimpArgs false
set_option linter.unusedVariables false

/-- The sums are the same. -/
def smB (s1 s2 : List ByteArray) (t1 t2 : List Int) (o1 o2 : Int) : Bool := decide (o1 = o2) && decide (s1 = s2) && decide (t1 = t2)
theorem smB_refl (s : List ByteArray) (t : List Int) (o : Int) : smB s s t t o o = true := by simp [smB]
theorem smB_true {s1 s2 : List ByteArray} {t1 t2 : List Int} {o1 o2 : Int} (h1 : s1 = s2) (h2 : t1 = t2) (h3 : o1 = o2) : smB s1 s2 t1 t2 o1 o2 = true := by subst h1 h2 h3; exact smB_refl _ _ _
theorem smB_off {s1 s2 : List ByteArray} {t1 t2 : List Int} {o1 o2 : Int} (h : o1 ≠ o2) : smB s1 s2 t1 t2 o1 o2 = false := by simp [smB, h]
theorem smB_len {s1 s2 : List ByteArray} {t1 t2 : List Int} {o1 o2 : Int} (h : s1.length ≠ s2.length ∨ t1.length ≠ t2.length) : smB s1 s2 t1 t2 o1 o2 = false := by
  rcases h with h | h
  · have : s1 ≠ s2 := fun e => h (by rw [e])
    simp [smB, this]
  · have : t1 ≠ t2 := fun e => h (by rw [e])
    simp [smB, this]
theorem smB_at {s1 s2 : List ByteArray} {t1 t2 : List Int} {o1 o2 : Int} (k : Nat) (h1 : k < s1.length) (h2 : k < s2.length) (h : s1[k] ≠ s2[k]) : smB s1 s2 t1 t2 o1 o2 = false := by
  have : s1 ≠ s2 := fun e => h (by subst e; rfl)
  simp [smB, this]
theorem smB_at2 {s1 s2 : List ByteArray} {t1 t2 : List Int} {o1 o2 : Int} (k : Nat) (h1 : k < t1.length) (h2 : k < t2.length) (h : t1[k] ≠ t2[k]) : smB s1 s2 t1 t2 o1 o2 = false := by
  have : t1 ≠ t2 := fun e => h (by subst e; rfl)
  simp [smB, this]
set_option maxHeartbeats 6400000 in
theorem samel_any (s1 s2 : List ByteArray) (t1 t2 : List Int) (o1 o2 : Int) (A B A' B' : Option Addr) (c d c' d' n m n' m' : Nat) (w : World)
    (hn : s1.length = n) (hm : t1.length = m) (hn' : s2.length = n') (hm' : t2.length = m') (h1 : SmS s1) (h2 : SmT t1) (h3 : SmS s2) (h4 : SmT t2)
    (ha : Rd strv w A s1) (hb : Rd intv w B t1) (ha' : Rd strv w A' s2) (hb' : Rd intv w B' t2) :
    Calls Tryz.prog 10 #[.agg #[.slice A n c, .slice B m d, .int .i64 o1], .agg #[.slice A' n' c', .slice B' m' d', .int .i64 o2]] w fun e w' => e = .returned (.bool (smB s1 s2 t1 t2 o1 o2)) ∧ Fr w w' := by
  have hl1 : n ≤ 9223372036854775807 := by have := h1.1; omega
  have hl2 : m ≤ 9223372036854775807 := by have := h2.1; omega
  by_cases ho : o1 = o2
  · by_cases hlen : n = n'
    · by_cases hlem : m = m'
      · subst ho hlen hlem
        generalize hR : smB s1 s2 t1 t2 o1 o1 = R
        have HX := Lib.hid hR
        have HF1 := Lib.hid (fun k a b h => smB_at (t1 := t1) (t2 := t2) (o1 := o1) (o2 := o1) (s1 := s1) (s2 := s2) k a b h)
        have HF2 := Lib.hid (fun k a b h => smB_at2 (t1 := t1) (t2 := t2) (o1 := o1) (o2 := o1) (s1 := s1) (s2 := s2) k a b h)
        rw [hR] at HF1 HF2
        have HA := Lib.hid ha
        have HB := Lib.hid hb
        have HA' := Lib.hid ha'
        have HB' := Lib.hid hb'
        have HLA := Lib.hid hn
        have HLB := Lib.hid hm
        have HLA' := Lib.hid hn'
        have HLB' := Lib.hid hm'
        clear ha hb h1 h2 hn hm ha' hb' h3 h4 hn' hm' hR
        go_enter Tryz.func10, Tryz.ntmps10
        go_wp2
        obtain ⟨W2, hW2⟩ : ∃ W2, W2 = (w.alloc (.cells #[.slice A n c, .slice B m d, .int .i64 o1] 25)).alloc (.cells #[.slice A' n c', .slice B' m d', .int .i64 o1] 25) := ⟨_, rfl⟩
        rw [← hW2]
        have HW2 := Lib.hid (show Fr w W2 by rw [hW2]; exact ((Fr.refl w).alloc _).alloc _)
        have HB1 := Lib.hid (show BlkC W2 w.heap.size [.slice A n c, .slice B m d, .int .i64 o1] by rw [hW2]; exact BlkC.alloc.fr ((Fr.refl _).alloc _))
        have HB2 := Lib.hid (show BlkC W2 (w.heap.size + 1) [.slice A' n c', .slice B' m d', .int .i64 o1] by
          rw [hW2]
          have := BlkC.alloc (w := w.alloc (.cells #[.slice A n c, .slice B m d, .int .i64 o1] 25)) (t := 25) (cs := #[.slice A' n c', .slice B' m d', .int .i64 o1])
          simpa using this)
        have HZ := Lib.hid (show w.heap.size + 2 = W2.heap.size by rw [hW2]; simp)
        clear hW2
        go_loopw [33] (fun i wr => RelSm s1 s2 n i W2 wr) (fun i _ => n - (intOf i).toNat)
        case atStart => exact ⟨0, Nat.zero_le _, rfl, fun j _ _ h => absurd h (by omega), Fr.refl _⟩
        case round =>
          obtain ⟨k, hk, rfl, hq, hfr⟩ := hrel
          have HU := Lib.hid hq
          have HFR := Lib.hid hfr
          obtain ⟨x0, x1, x2⟩ := (HB1.out.fr hfr).three
          obtain ⟨y0, y1, y2⟩ := (HB2.out.fr hfr).three
          have zw := HZ.out
          have zr := hfr.size
          clear hq hfr
          by_cases hlt : k < n
          · have hka : k < s1.length := by rw [HLA.out]; exact hlt
            have hkb : k < s2.length := by rw [HLA'.out]; exact hlt
            obtain ⟨ga, oa, rfl, hga, hca⟩ := HA.out (by omega)
            obtain ⟨gb, ob, rfl, hgb, hcb⟩ := HA'.out (by omega)
            have a1 : wr.cell? ⟨ga, oa + k, none⟩ = some (.string s1[k]) := (HW2.out.call HFR.out).get (hca k hka)
            have b1 : wr.cell? ⟨gb, ob + k, none⟩ = some (.string s2[k]) := (HW2.out.call HFR.out).get (hcb k hkb)
            have hga' : ga < wr.heap.size := lt_of_cell a1
            have hgb' : gb < wr.heap.size := lt_of_cell b1
            have HE := Lib.hid (HF1.out k hka hkb)
            have HN := Lib.hid (HU.out.next hka hkb)
            clear hca hcb
            generalize s1[k] = x at *
            generalize s2[k] = y at *
            by_cases hxy : x = y
            · subst hxy
              go_wp2_with fail
              go_quiet (fail)
              go_wp2
              go_roundw
              case rel => exact ⟨k + 1, by omega, by go_num, HN.out trivial, Fr.drewN HFR.out _⟩
              case measure => simp [intOf]; omega
            · have e1 : (x.toList == y.toList) = false := by rw [str_beq, decide_eq_false hxy]
              go_wp2_with fail
              go_quiet (fail)
              go_wp2
              go_ret
              exact ⟨ret_bool (HE.out hxy).symm, Fr.drewN (HW2.out.call HFR.out) _⟩
          · obtain rfl : k = n := by omega
            have HS := Lib.hid (HU.out.all HLA.out HLA'.out)
            go_wp2
            go_loopw [51] (fun i wr => RelSm t1 t2 m i W2 wr) (fun i _ => m - (intOf i).toNat)
            case atStart => exact ⟨0, Nat.zero_le _, rfl, fun j _ _ h => absurd h (by omega), HFR.out⟩
            case round =>
              obtain ⟨k, hk, rfl, hq, hfr⟩ := hrel
              have HU := Lib.hid hq
              have HFR := Lib.hid hfr
              obtain ⟨x0, x1, x2⟩ := (HB1.out.fr hfr).three
              obtain ⟨y0, y1, y2⟩ := (HB2.out.fr hfr).three
              have zw := HZ.out
              have zr := hfr.size
              clear hq hfr
              by_cases hlt : k < m
              · have hka : k < t1.length := by rw [HLB.out]; exact hlt
                have hkb : k < t2.length := by rw [HLB'.out]; exact hlt
                obtain ⟨ga, oa, rfl, hga, hca⟩ := HB.out (by omega)
                obtain ⟨gb, ob, rfl, hgb, hcb⟩ := HB'.out (by omega)
                have a1 : wr.cell? ⟨ga, oa + k, none⟩ = some (.int .i64 t1[k]) := (HW2.out.call HFR.out).get (hca k hka)
                have b1 : wr.cell? ⟨gb, ob + k, none⟩ = some (.int .i64 t2[k]) := (HW2.out.call HFR.out).get (hcb k hkb)
                have hga' : ga < wr.heap.size := lt_of_cell a1
                have hgb' : gb < wr.heap.size := lt_of_cell b1
                have HE := Lib.hid (HF2.out k hka hkb)
                have HN := Lib.hid (HU.out.next hka hkb)
                clear hca hcb
                generalize t1[k] = x at *
                generalize t2[k] = y at *
                by_cases hxy : x = y
                · subst hxy
                  go_wp2_with fail
                  go_quiet (fail)
                  go_wp2
                  go_roundw
                  case rel => exact ⟨k + 1, by omega, by go_num, HN.out trivial, Fr.drewN HFR.out _⟩
                  case measure => simp [intOf]; omega
                · have e1 : (x == y) = false := by simp [hxy]
                  go_wp2_with fail
                  go_quiet (fail)
                  go_wp2
                  go_ret
                  exact ⟨ret_bool (HE.out hxy).symm, Fr.drewN (HW2.out.call HFR.out) _⟩
              · obtain rfl : k = m := by omega
                have HT := Lib.hid (HU.out.all HLB.out HLB'.out)
                go_wp2
                go_ret
                exact ⟨ret_bool (by rw [← HX.out]; exact (smB_true HS.out HT.out rfl).symm), HW2.out.call HFR.out⟩
      · subst ho hlen
        have HX := Lib.hid (smB_len (s1 := s1) (s2 := s2) (t1 := t1) (t2 := t2) (o1 := o1) (o2 := o1) (.inr (by omega)))
        clear ha hb h1 h2 hn hm ha' hb' h3 h4 hn' hm'
        go_enter Tryz.func10, Tryz.ntmps10
        go_wp2
        go_ret
        exact ⟨ret_bool HX.out.symm, ((Fr.refl w).alloc _).alloc _⟩
    · subst ho
      have HX := Lib.hid (smB_len (s1 := s1) (s2 := s2) (t1 := t1) (t2 := t2) (o1 := o1) (o2 := o1) (.inl (by omega)))
      clear ha hb h1 h2 hn hm ha' hb' h3 h4 hn' hm'
      go_enter Tryz.func10, Tryz.ntmps10
      go_wp2
      go_ret
      exact ⟨ret_bool HX.out.symm, ((Fr.refl w).alloc _).alloc _⟩
  · have HX := Lib.hid (smB_off (s1 := s1) (s2 := s2) (t1 := t1) (t2 := t2) ho)
    clear ha hb h1 h2 hn hm ha' hb' h3 h4 hn' hm'
    go_enter Tryz.func10, Tryz.ntmps10
    go_wp2
    go_ret
    exact ⟨ret_bool HX.out.symm, ((Fr.refl w).alloc _).alloc _⟩
end Go.Proofs.YtbnaakognnkhdaaGreatDoor
