/- The reader's run: words. -/
import Derived.Test.YtonlmennpbklgaaDoorSfa
namespace Go.Proofs.YtonlmennpbklgaaDoor
open Go.RowKit
set_option linter.unusedSimpArgs false
set_option linter.unusedVariables false

set_option maxHeartbeats 6400000 in
set_option maxRecDepth 100000 in
theorem run_word (p j k : Nat) (s : ByteArray) (w : World) (hp : Pa w p s j k) (hj : j < s.size) (hs : s.size ≤ 281474976710656) (hc : inB s[j] = true) (hq : s[j].toNat ≠ 34) (hnu : nuB s[j] = false) :
    Calls Tryd.prog 40 #[.pointer (some ⟨p, 0, none⟩)] w fun e w' => LfPost p s j k w (leaf s[j] (s.data.toList.drop (j + 1))) e w' := by
  have hD := drop_at s j hj
  have hlf : leaf s[j] (s.data.toList.drop (j + 1)) = .inr (.node 1 (s.extract j (j + ruN (s.data.toList.drop j))) 0 [], ruN (s.data.toList.drop j)) := by
    unfold leaf; rw [if_neg hq, if_pos hc, if_neg (by simp [hnu]), ← hD]
    congr 3
    apply ByteArray.ext; apply Array.toList_inj.1; rw [sub_list]
  have hrl := runLen_any (s.extract j s.size)
  rw [tail_of] at hrl
  have hn0 : 0 < ruN (s.data.toList.drop j) := by rw [hD, ruN_split hc]; omega
  have hnl : j + ruN (s.data.toList.drop j) ≤ s.size := by have := ruN_le (s.data.toList.drop j); simp at this; omega
  rw [hlf]
  clear hlf hD
  generalize ruN (s.data.toList.drop j) = n at *
  have HL := Lib.hid (fun w => hrl w (by simp; unfold maxLen; omega))
  obtain ⟨hb, hp0, hne, hwr⟩ := tree_block p j k s w hp
  have HNE := Lib.hid hne
  obtain ⟨c0, c1, c2, f1, f2⟩ := hp0.three
  have hp2 := hp0.seti (j + n)
  rw [show ((j + n : Nat) : Int) = (j : Int) + (n : Int) by omega] at hp2
  have HP2 := Lib.hid hp2
  have HB2 := Lib.hid (hb.far (p := ⟨p, 1, none⟩) (fun h => hne h.symm) (.int .i64 ((j : Int) + (n : Int))))
  have HW2 := Lib.hid (hwr.setp 1 (.int .i64 ((j : Int) + (n : Int))))
  have hj2 : (j : Int) ≤ (s.size : Int) := by omega
  have hj3 : (j : Int) + (n : Int) ≤ (s.size : Int) := by omega
  have hsl := slice_at s j (j + n) (by omega) hnl
  rw [show ((j + n : Nat) : Int) = (j : Int) + (n : Int) by omega] at hsl
  obtain ⟨z0, z1⟩ := sub_head s j n hn0 hnl
  have hbg := begins_any s[j]
  rw [hnu] at hbg
  have HB := Lib.hid hbg
  have HEM := Lib.hid (empty_no z0)
  have HC := Lib.hid (fun w => clone_any (s.extract j (j + n)) w (by simp; omega))
  clear hrl hc hq hp hb hp0 hne hwr hnu hbg hp2
  go_enter Tryd.func40, Tryd.ntmps40
  go_wp2
  go_region_with (first | (go_at_call 49; refine (HL.out _).mono ?_; rintro e w' ⟨rfl, rfl⟩))
  all_goals
    go_wp2
    go_quiet (fail)
    go_wp2_with fail
    · have h : (s.extract j (j + n)).toList.isEmpty = true := by assumption
      rw [HEM.out] at h
      cases h
    · refine (HB.out _).mono ?_
      rintro e w' ⟨rfl, rfl⟩
      go_wp2_with fail
      refine (HC.out _).mono ?_
      rintro e w5 ⟨rfl, hf⟩
      have hf2 := Fr.call (show Fr ((w.alloc (.cells #[.int .i64 0, .string ⟨#[]⟩, .int .i64 0, .slice none 0 0] 38)).setCell ⟨p, 1, none⟩ (.int .i64 ((j : Int) + (n : Int)))) _ from by repeat (first | exact Fr.refl _ | apply Fr.drewN | apply Fr.drew)) hf
      obtain ⟨r0, r1, r2, r3, q0, q1, q2, q3⟩ := (HB2.out.fr hf2).four
      have HPA := Lib.hid (Pa.fr HP2.out hf2)
      have HW5 := Lib.hid (HW2.out.fr hf2)
      clear hf hf2
      go_wp2
      refine bodyPost_ret (v := tv 1 (s.extract j (j + n)) 0) (by simp [results, Tryd.results40, go_sem, *]) rfl (lf_ok rfl rfl ?_ ?_)
      · have h := HPA.out
        unfold Pa at h ⊢
        repeat (first | exact h | (refine Bk.far ?_ (by simpa using HNE.out) _))
      · repeat (first | exact HW5.out | (refine Wr.setn ?_ (by simp) _))
end Go.Proofs.YtonlmennpbklgaaDoor
