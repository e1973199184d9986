/- The reader's run: numbers. -/
import Derived.Test.YtonlmennpbklgaaDoorSga
namespace Go.Proofs.YtonlmennpbklgaaDoor
open Go.RowKit
set_option linter.unusedSimpArgs false
set_option linter.unusedVariables false

set_option maxHeartbeats 6400000 in
set_option maxRecDepth 100000 in
theorem run_num (p j k : Nat) (s : ByteArray) (w : World) (hp : Pa w p s j k) (hj : j < s.size) (hs : s.size ≤ 281474976710656) (hc : inB s[j] = true) (hq : s[j].toNat ≠ 34) (hnu : nuB s[j] = true) (hp5 : 5 < p) (hla : Laid w) (v : Int) (hv : okN v) (heq : Lib.itoa v = ((s.data.toList.drop j).take (ruN (s.data.toList.drop j)))) :
    Calls Tryd.prog 40 #[.pointer (some ⟨p, 0, none⟩)] w fun e w' => LfPost p s j k w (leaf s[j] (s.data.toList.drop (j + 1))) e w' := by
  have hD := drop_at s j hj
  have hlf : leaf s[j] (s.data.toList.drop (j + 1)) = .inr (.node 2 ⟨#[]⟩ v [], ruN (s.data.toList.drop j)) := by
    unfold leaf; rw [if_neg hq, if_pos hc, if_pos hnu, ← hD]
    rw [← heq, numL_itoa hv]
  have hsub := sub_list s j (ruN (s.data.toList.drop j))
  have hrl := runLen_any (s.extract j s.size)
  rw [tail_of] at hrl
  have hn0 : 0 < ruN (s.data.toList.drop j) := by rw [hD, ruN_split hc]; omega
  have hnl : j + ruN (s.data.toList.drop j) ≤ s.size := by have := ruN_le (s.data.toList.drop j); simp at this; omega
  rw [hlf]
  clear hlf hD
  generalize ruN (s.data.toList.drop j) = n at *
  have HL := Lib.hid (fun w => hrl w (by simp; unfold maxLen; omega))
  obtain ⟨hb, hp0, hne, hwr⟩ := tree_block p j k s w hp
  have HNE := Lib.hid hne
  obtain ⟨c0, c1, c2, f1, f2⟩ := hp0.three
  have hp2 := hp0.seti (j + n)
  rw [show ((j + n : Nat) : Int) = (j : Int) + (n : Int) by omega] at hp2
  have HP2 := Lib.hid hp2
  have HB2 := Lib.hid (hb.far (p := ⟨p, 1, none⟩) (fun h => hne h.symm) (.int .i64 ((j : Int) + (n : Int))))
  have HW2 := Lib.hid (hwr.setp 1 (.int .i64 ((j : Int) + (n : Int))))
  have hj2 : (j : Int) ≤ (s.size : Int) := by omega
  have hj3 : (j : Int) + (n : Int) ≤ (s.size : Int) := by omega
  have hsl := slice_at s j (j + n) (by omega) hnl
  rw [show ((j + n : Nat) : Int) = (j : Int) + (n : Int) by omega] at hsl
  obtain ⟨z0, z1⟩ := sub_head s j n hn0 hnl
  have hbg := begins_any s[j]
  rw [hnu] at hbg
  have HB := Lib.hid hbg
  have HEM := Lib.hid (empty_no z0)
  have HLA := Lib.hid hla
  have HP5 := Lib.hid hp5
  have hat : Lib.atoiAll (s.extract j (j + n)).data.toList = .ok v := by rw [hsub, ← heq]; exact atoi_itoa hv
  have HAT := Lib.hid (fun w => atoi_good (s.extract j (j + n)) v (by simp; omega) hat w)
  have hnb := isnumber_any v
  rw [decide_eq_true (show -999999999999999999 ≤ v ∧ v ≤ 999999999999999999 from ⟨by have := hv.1; omega, by have := hv.2; omega⟩)] at hnb
  have HNB := Lib.hid hnb
  have HIT := Lib.hid (fun w h => itoa_any v (by have := hv.1; omega) (by have := hv.2; omega) w h)
  rw [← hsub] at heq
  have HNI := Lib.hid (show (!Lib.itoa v == (s.extract j (j + n)).toList) = false from by rw [ByteArray.toList_eq, heq]; simp)
  clear hat hsub hnb hv heq
  clear hrl hc hq hp hb hp0 hne hwr hnu hbg hp2 hla hp5
  go_enter Tryd.func40, Tryd.ntmps40
  go_wp2
  go_region_with (first | (go_at_call 49; refine (HL.out _).mono ?_; rintro e w' ⟨rfl, rfl⟩))
  all_goals
    go_wp2
    go_quiet (fail)
    go_wp2_with fail
    · have h : (s.extract j (j + n)).toList.isEmpty = true := by assumption
      rw [HEM.out] at h
      cases h
    · refine (HB.out _).mono ?_
      rintro e w' ⟨rfl, rfl⟩
      go_wp2_with fail
      refine (HAT.out _).mono ?_
      rintro e w5 ⟨rfl, hf⟩
      have HW5 := Lib.hid (HW2.out.fr (Fr.call (show Fr ((w.alloc (.cells #[.int .i64 0, .string ⟨#[]⟩, .int .i64 0, .slice none 0 0] 38)).setCell ⟨p, 1, none⟩ (.int .i64 ((j : Int) + (n : Int)))) _ from by repeat (first | exact Fr.refl _ | apply Fr.drewN | apply Fr.drew)) hf))
      have HPA := Lib.hid (Pa.fr HP2.out (Fr.call (show Fr ((w.alloc (.cells #[.int .i64 0, .string ⟨#[]⟩, .int .i64 0, .slice none 0 0] 38)).setCell ⟨p, 1, none⟩ (.int .i64 ((j : Int) + (n : Int)))) _ from by repeat (first | exact Fr.refl _ | apply Fr.drewN | apply Fr.drew)) hf))
      obtain ⟨r0, r1, r2, r3, q0, q1, q2, q3⟩ := (HB2.out.fr (Fr.call (show Fr ((w.alloc (.cells #[.int .i64 0, .string ⟨#[]⟩, .int .i64 0, .slice none 0 0] 38)).setCell ⟨p, 1, none⟩ (.int .i64 ((j : Int) + (n : Int)))) _ from by repeat (first | exact Fr.refl _ | apply Fr.drewN | apply Fr.drew)) hf)).four
      have HBB := Lib.hid (HB2.out.fr (Fr.call (show Fr ((w.alloc (.cells #[.int .i64 0, .string ⟨#[]⟩, .int .i64 0, .slice none 0 0] 38)).setCell ⟨p, 1, none⟩ (.int .i64 ((j : Int) + (n : Int)))) _ from by repeat (first | exact Fr.refl _ | apply Fr.drewN | apply Fr.drew)) hf))
      clear hf
      go_wp2_with fail
      refine (HNB.out _).mono ?_
      rintro e w' ⟨rfl, rfl⟩
      go_wp2_with fail
      refine (HIT.out _ (HLA.out.wr HW5.out HP5.out)).mono ?_
      rintro e w6 ⟨rfl, hf⟩
      have HW6 := Lib.hid (HW5.out.fr hf)
      have HPB := Lib.hid (Pa.fr HPA.out hf)
      obtain ⟨r0', r1', r2', r3', q0', q1', q2', q3'⟩ := (Bk.fr HBB.out hf).four
      clear hf
      go_wp2
      · have h : (!Lib.itoa v == (s.extract j (j + n)).toList) = true := by assumption
        rw [HNI.out] at h
        cases h
      · refine bodyPost_ret (v := tv 2 ⟨#[]⟩ v) (by simp [results, Tryd.results40, go_sem, *]) rfl (lf_ok rfl rfl ?_ ?_)
        · have h := HPB.out
          unfold Pa at h ⊢
          repeat (first | exact h | (refine Bk.far ?_ (by simpa using HNE.out) _))
        · repeat (first | exact HW6.out | (refine Wr.setn ?_ (by simp) _))
end Go.Proofs.YtonlmennpbklgaaDoor
