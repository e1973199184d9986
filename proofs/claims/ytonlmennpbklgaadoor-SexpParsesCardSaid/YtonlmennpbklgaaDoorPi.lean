/- SexpParses answers true: the walk. -/
import Derived.Test.YtonlmennpbklgaaDoorPh
import Derived.Test.YtonlmennpbklgaaDoorSbo
namespace Go.Proofs.YtonlmennpbklgaaDoor
open Go.RowKit

set_option maxHeartbeats 6400000 in
set_option maxRecDepth 100000 in
theorem refparse_long (s : ByteArray) (w : World) (hs : 262144 < s.size) (hs2 : s.size ≤ maxLen) :
    Calls Tryd.prog 7 #[.string s] w fun e w' => e = .returned (.tuple #[.slice none 0 0, .int .i64 0, .int .i64 33]) ∧ Fr w w' := by
  unfold maxLen at hs2
  have hs3 : decide ((262144 : Int) < (s.size : Int)) = true := by simp; omega
  clear hs
  go_enter Tryd.func7, Tryd.ntmps7
  go_wp2
  go_ret3
  exact ⟨rfl, Fr.refl w⟩
/-- What both answer: the same place and error, or the same trees. -/
def Q1 (s : ByteArray) (w : World) (e : Ending) (w' : World) : Prop :=
  Fr w w' ∧ ((∃ (a : Nat) (er : Int), e = .returned (.tuple #[.slice none 0 0, .int .i64 (a : Int), .int .i64 er]) ∧ (if s.size ≤ 262144 then run s.data.toList 0 [[]] 0 = .err a er else a = 0 ∧ er = 33)) ∨
    (∃ (l : List T) (A : Option Addr) (c : Nat), e = .returned (.tuple #[.slice A l.length c, .int .i64 0, .int .i64 0]) ∧ RdL w' (New w w') A l ∧ s.size ≤ 262144 ∧ run s.data.toList 0 [[]] 0 = .ok l ∧ cntL l ≤ 65536))
theorem q1_of_ps {s : ByteArray} {w w' : World} {e : Ending} (h : s.size ≤ 262144) (k : PsPost s w e w') : Q1 s w e w' := by
  obtain ⟨hf, ⟨a, er, he, hr⟩ | ⟨l, A, c, he, _, hrd, hr⟩⟩ := k
  · exact ⟨hf, .inl ⟨a, er, he, by rw [if_pos h]; exact hr⟩⟩
  · exact ⟨hf, .inr ⟨l, A, c, he, hrd, h, hr, run_cnt hr⟩⟩
theorem q1_long {s : ByteArray} {w w' : World} {e : Ending} (h : ¬ s.size ≤ 262144) (he : e = .returned (.tuple #[.slice none 0 0, .int .i64 0, .int .i64 33])) (hf : Fr w w') : Q1 s w e w' :=
  ⟨hf, .inl ⟨0, 33, he, by rw [if_neg h]; exact ⟨rfl, rfl⟩⟩⟩
theorem ref_q1 (s : ByteArray) (hs : s.size ≤ maxLen) (w : World) : Calls Tryd.prog 7 #[.string s] w fun e w' => Q1 s w e w' := by
  by_cases h : s.size ≤ 262144
  · exact (refparse_any s w h).mono fun e w' k => q1_of_ps h k
  · exact (refparse_long s w (by omega) hs).mono fun e w' k => q1_long h k.1 k.2
theorem own_q1 (s : ByteArray) (hs : s.size ≤ maxLen) (w : World) (hw5 : 5 < w.heap.size) (hla : Laid w) : Calls Tryd.prog 8 #[.string s] w fun e w' => Q1 s w e w' := by
  by_cases h : s.size ≤ 262144
  · exact (parse_ps s w h hw5 hla).mono fun e w' k => q1_of_ps h k
  · exact (parse_long s w (by omega) hs).mono fun e w' k => q1_long h k.1 k.2
set_option maxHeartbeats 3200000 in
set_option maxRecDepth 100000 in
theorem parses_walk (s : ByteArray) (hs : s.size ≤ maxLen) (w : World) (hw5 : 5 < w.heap.size) (hla : Laid w) :
    Calls Tryd.prog 3 #[.string s] w fun e w' => e = .returned (.bool true) ∧ Fr w w' := by
  have HA := Lib.hid (alive_any w hw5 hla)
  have HW := Lib.hid hw5
  have HL := Lib.hid hla
  have HP := Lib.hid (fun (w' : World) (k : Fr w w') => own_q1 s hs w' (by have := HW.out; have := k.size; omega) (HL.out.wr (p := w.heap.size) (Wr.of k) (by have := HW.out; omega)))
  have HR := Lib.hid (fun (w' : World) => ref_q1 s hs w')
  clear hw5 hla
  go_enter Tryd.func3, Tryd.ntmps3
  go_wp2_with (go_at_call 6; refine (HA.out).mono ?_; rintro e w1 ⟨rfl, hf⟩; have HF := Lib.hid hf; clear hf)
  refine (HR.out w1).mono ?_
  rintro e w2 ⟨hf, ⟨a, er, rfl, hr⟩ | ⟨l, A, c, rfl, hrd, hsz, hr, hcnt⟩⟩
  · have HF2 := Lib.hid (HF.out.call hf)
    have HE := Lib.hid hr
    clear hf hr
    go_wp2_with fail
    refine (HP.out w2 HF2.out).mono ?_
    rintro e w3 ⟨hf, ⟨a', er', rfl, hr'⟩ | ⟨l', B, d, rfl, hrd', hsz', hr', hcnt'⟩⟩
    · have HF3 := Lib.hid (HF2.out.call hf)
      obtain ⟨rfl, rfl⟩ : a' = a ∧ er' = er := by
        have h1 := HE.out
        by_cases h : s.size ≤ 262144
        · rw [if_pos h] at h1 hr'
          have := hr'.symm.trans h1
          injection this with e1 e2
          exact ⟨e1, e2⟩
        · rw [if_neg h] at h1 hr'
          exact ⟨by omega, by omega⟩
      have HS := Lib.hid (same_any [] [] none none 0 0 (fun _ => False) (fun _ => False) w3 (by simp [cntL]) (by simp [cntL]) (fun _ h => h.elim) (fun _ h => h.elim) (by unfold RdL; trivial) (by unfold RdL; trivial))
      rw [sameL_refl] at HS
      clear hf hr' HE
      go_wp2_with (go_at_call 9; refine (HS.out).mono ?_; rintro e w4 ⟨rfl, hf⟩; have HF4 := Lib.hid (HF3.out.call hf); clear hf)
      go_ret
      exact ⟨ret_bool (by simp), HF4.out⟩
    · exfalso
      have h1 := HE.out
      rw [if_pos hsz'] at h1
      rw [hr'] at h1
      cases h1
  · have HF2 := Lib.hid (HF.out.call hf)
    have HRD := Lib.hid hrd
    have HE := Lib.hid hr
    clear hf hrd hr
    go_wp2_with fail
    refine (HP.out w2 HF2.out).mono ?_
    rintro e w3 ⟨hf, ⟨a', er', rfl, hr'⟩ | ⟨l', B, d, rfl, hrd', hsz', hr', hcnt'⟩⟩
    · exfalso
      rw [if_pos hsz] at hr'
      have := HE.out.symm.trans hr'
      cases this
    · have HF3 := Lib.hid (HF2.out.call hf)
      obtain rfl : l' = l := by
        have := hr'.symm.trans HE.out
        injection this
      have HS := Lib.hid (same_any l' l' B A d c (New w2 w3) (New w1 w2) w3 (by omega) (by omega) (fun b h => h.2) (fun b h => Nat.lt_of_lt_of_le h.2 hf.size) hrd' (HRD.out.old hf (fun b h => h.2)))
      rw [sameL_refl] at HS
      clear hf hrd' hr' HE
      go_wp2_with (go_at_call 9; refine (HS.out).mono ?_; rintro e w4 ⟨rfl, hf⟩; have HF4 := Lib.hid (HF3.out.call hf); clear hf)
      go_ret
      exact ⟨ret_bool (by simp), HF4.out⟩
end Go.Proofs.YtonlmennpbklgaaDoor
