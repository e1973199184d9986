/- The reader's quoted. -/
import Derived.Test.YtonlmennpbklgaaDoorSd
import Derived.WalkSpells
namespace Go.Proofs.YtonlmennpbklgaaDoor
open Go.RowKit
set_option linter.unusedSimpArgs false
set_option linter.unusedVariables false

set_option maxHeartbeats 1600000 in
theorem clone_any (s : ByteArray) (w : World) (hlim : s.size ≤ 281474976710656) : Calls Tryd.prog 47 #[.string s] w fun e w' => e = .returned (.string s) ∧ Fr w w' := by
  have HC := Lib.hid (fun w => Tryd.stringslite_Clone s w hlim)
  clear hlim
  go_enter Tryd.func47, Tryd.ntmps47
  go_wp2_with (go_at_call 55; refine (HC.out _).mono ?_; rintro e w' ⟨rfl, hb⟩; have HB := Lib.hid hb; clear hb)
  go_ret
  exact ⟨rfl, HB.out⟩
theorem slice_at (s : ByteArray) (a b : Nat) (h1 : a ≤ b) (h2 : b ≤ s.size) (w : World) : (Instr.slice 9 (.string s) (some (.int .i64 (a : Int))) (some (.int .i64 (b : Int))) none).run Tryd.prog w = .ok (.string (s.extract a b)) w := by
  have h := run_slice_string (P := Tryd.prog) w 9 s .i64 .i64 (a : Int) (b : Int) Tryd.underlying9 (by omega) (by omega) (by omega)
  simpa using h
/-- A tree without lists, as a value. -/
abbrev tv (k : Int) (s : ByteArray) (n : Int) : Value := .agg #[.int .i64 k, .string s, .int .i64 n, .slice none 0 0]
def QuPost (p : Nat) (s : ByteArray) (j k : Nat) (w : World) (q : Q) (e : Ending) (w' : World) : Prop :=
  match q with
  | .closed m => e = .returned (tv 3 (s.extract (j + 1) (j + 1 + m)) 0) ∧ Pa w' p s (j + (m + 2)) k ∧ Wr p w w'
  | .wrong m => PanW (j + (m + 1)) 31 e ∧ Wr p w w'
  | .unclosed => PanW j 31 e ∧ Wr p w w'
def QuRel (s : ByteArray) (j : Nat) (i : Value) : Prop := ∃ m : Nat, j + 1 + m ≤ s.size ∧ i = .int .i64 ((j + 1 + m : Nat) : Int) ∧ textL (s.data.toList.drop (j + 1)) 0 = textL (s.data.toList.drop (j + 1 + m)) m
theorem Bk.four {w : World} {g : Nat} {t : TypeId} {a b c d : Value} (h : Bk w g t #[a, b, c, d]) : w.cell? ⟨g, 0, none⟩ = some a ∧ w.cell? ⟨g, 1, none⟩ = some b ∧ w.cell? ⟨g, 2, none⟩ = some c ∧ w.cell? ⟨g, 3, none⟩ = some d ∧
    w.frozen? ⟨g, 0, none⟩ = false ∧ w.frozen? ⟨g, 1, none⟩ = false ∧ w.frozen? ⟨g, 2, none⟩ = false ∧ w.frozen? ⟨g, 3, none⟩ = false := ⟨h.cell 0, h.cell 1, h.cell 2, h.cell 3, h.free 0, h.free 1, h.free 2, h.free 3⟩
theorem qu_closed {p j k m : Nat} {s : ByteArray} {w w' : World} {q : Q} {e : Ending} (h : q = .closed m) (he : e = .returned (tv 3 (s.extract (j + 1) (j + 1 + m)) 0)) (hp : Pa w' p s (j + (m + 2)) k) (hw : Wr p w w') : QuPost p s j k w q e w' := by subst h; exact ⟨he, hp, hw⟩
theorem qu_wrong {p j k m : Nat} {s : ByteArray} {w w' : World} {q : Q} {e : Ending} (h : q = .wrong m) (he : PanW (j + (m + 1)) 31 e) (hw : Wr p w w') : QuPost p s j k w q e w' := by subst h; exact ⟨he, hw⟩
theorem qu_open {p j k : Nat} {s : ByteArray} {w w' : World} {q : Q} {e : Ending} (h : q = .unclosed) (he : PanW j 31 e) (hw : Wr p w w') : QuPost p s j k w q e w' := by subst h; exact ⟨he, hw⟩
theorem textL_nil (m : Nat) : textL [] m = .unclosed := rfl
theorem textL_cons (c : UInt8) (r : List UInt8) (m : Nat) : textL (c :: r) m = if c.toNat = 10 then .unclosed else if c.toNat = 34 then .closed m else if txB c then textL r (m + 1) else .wrong m := rfl
set_option maxHeartbeats 6400000 in
set_option maxRecDepth 100000 in
theorem quoted_any (p j k : Nat) (s : ByteArray) (w : World) (hp : Pa w p s j k) (hj : j < s.size) (hs : s.size ≤ 281474976710656) :
    Calls Tryd.prog 39 #[.pointer (some ⟨p, 0, none⟩)] w fun e w' => QuPost p s j k w (textL (s.data.toList.drop (j + 1)) 0) e w' := by
  have HT := Lib.hid (fun c w => istext_any c w)
  have HC := Lib.hid (fun a b w h => clone_any (s.extract a b) w h)
  have BR := Lib.hid (Bk.new w 38 #[.int .i64 0, .string ⟨#[]⟩, .int .i64 0, .slice none 0 0])
  have HP := Lib.hid (hp.fr ((Fr.refl w).alloc (.cells #[.int .i64 0, .string ⟨#[]⟩, .int .i64 0, .slice none 0 0] 38)))
  have hpl := hp.lt
  obtain ⟨c0, c1, c2, f1, f2⟩ := HP.out.three
  obtain ⟨c0', c1', c2', f1', f2'⟩ := hp.three
  have HPL := Lib.hid hpl
  clear hp hpl
  go_enter Tryd.func39, Tryd.ntmps39
  go_wp2
  go_loop [4] (fun i => QuRel s j i) (fun i => s.size - (intOf i).toNat)
  case atStart => exact ⟨0, by omega, rfl, rfl⟩
  case round =>
    obtain ⟨m, hm, rfl, hq⟩ := hrel
    have HQ := Lib.hid hq
    clear hq
    by_cases hlt : j + 1 + m < s.size
    · have hD := drop_at s (j + 1 + m) hlt
      have HTc := Lib.hid (fun w => HT.out s[j + 1 + m] w)
      have HE := Lib.hid (textL_cons s[j + 1 + m] (s.data.toList.drop (j + 1 + m + 1)) m)
      rw [← hD] at HE
      clear hD
      generalize hb : txB s[j + 1 + m] = b at *
      clear hb
      have b2 : (j : Int) + 1 + (m : Int) ≤ (s.size : Int) := by omega
      have hsl := slice_at s (j + 1) (j + 1 + m) (by omega) (by omega)
      have e1 : ((j + 1 : Nat) : Int) = (j : Int) + 1 := by omega
      have e2 : ((j + 1 + m : Nat) : Int) = (j : Int) + 1 + (m : Int) := by omega
      rw [e1, e2] at hsl
      clear e1 e2
      have b5 : (s.extract (j + 1) (j + 1 + m)).size ≤ 281474976710656 := by simp; omega
      have HCc := Lib.hid (fun w => HC.out (j + 1) (j + 1 + m) w b5)
      clear b5
      cases b
      · go_wp2_with (first
          | (go_at_call 48; refine (HTc.out _).mono ?_; rintro e w' ⟨rfl, rfl⟩)
          | (go_at_call 47; refine (HCc.out _).mono ?_; rintro e w5 ⟨rfl, hf⟩; have HF5 := Lib.hid hf; obtain ⟨r0, r1, r2, r3, q0, q1, q2, q3⟩ := ((BR.out.far (p := ⟨p, 1, none⟩) (by have := HPL.out; simp; omega) _).fr hf).four; clear hf))
        · have t2 : ((s[j + 1 + m].toNat : Int) == 34) = true := by assumption
          have HW := Lib.hid ((((Wr.refl p w).alloc (.cells #[.int .i64 0, .string ⟨#[]⟩, .int .i64 0, .slice none 0 0] 38)).setp 1 (.int .i64 ((j : Int) + 1 + (m : Int) + 1))).fr HF5.out)
          have hpa := HP.out.seti (j + (m + 2))
          rw [show ((j + (m + 2) : Nat) : Int) = (j : Int) + 1 + (m : Int) + 1 by omega] at hpa
          have HPA := Lib.hid (Pa.fr hpa HF5.out)
          have hne : p ≠ w.heap.size := by have := HPL.out; omega
          clear hpa
          refine bodyPost_ret (v := tv 3 (s.extract (j + 1) (j + 1 + m)) 0) (by simp [results, Tryd.results39, go_sem, *]) rfl (qu_closed (m := m) ?_ rfl ?_ ?_)
          · rw [HQ.out, HE.out, if_neg (by simp at t2; omega), if_pos (by simp at t2; omega)]
          · have h := HPA.out
            unfold Pa at h ⊢
            repeat (first | exact h | (refine Bk.far ?_ (by simpa using hne) _))
          · repeat (first | exact HW.out | (refine Wr.setn ?_ (by simp) _))
        · have t1 : ((s[j + 1 + m].toNat : Int) != 10) = true := by assumption
          have t2 : ((s[j + 1 + m].toNat : Int) == 34) = false := by assumption
          have e1 : ((j + (m + 1) : Nat) : Int) = (j : Int) + 1 + (m : Int) := by omega
          exact ⟨rfl, qu_wrong (m := m) (by rw [HQ.out, HE.out, if_neg (by simp at t1; omega), if_neg (by simp at t2; omega), if_neg (by simp)]) (by unfold PanW; rw [e1]) ((Wr.refl p w).alloc _)⟩
        · have t2 : ((s[j + 1 + m].toNat : Int) != 10) = false := by assumption
          exact ⟨rfl, qu_open (by rw [HQ.out, HE.out, if_pos (by simp at t2; omega)]) rfl ((Wr.refl p w).alloc _)⟩
      · go_wp2_with (first
          | (go_at_call 48; refine (HTc.out _).mono ?_; rintro e w' ⟨rfl, rfl⟩)
          | (go_at_call 47; refine (HCc.out _).mono ?_; rintro e w5 ⟨rfl, hf⟩; have HF5 := Lib.hid hf; obtain ⟨r0, r1, r2, r3, q0, q1, q2, q3⟩ := ((BR.out.far (p := ⟨p, 1, none⟩) (by have := HPL.out; simp; omega) _).fr hf).four; clear hf))
        · have t2 : ((s[j + 1 + m].toNat : Int) == 34) = true := by assumption
          have HW := Lib.hid ((((Wr.refl p w).alloc (.cells #[.int .i64 0, .string ⟨#[]⟩, .int .i64 0, .slice none 0 0] 38)).setp 1 (.int .i64 ((j : Int) + 1 + (m : Int) + 1))).fr HF5.out)
          have hpa := HP.out.seti (j + (m + 2))
          rw [show ((j + (m + 2) : Nat) : Int) = (j : Int) + 1 + (m : Int) + 1 by omega] at hpa
          have HPA := Lib.hid (Pa.fr hpa HF5.out)
          have hne : p ≠ w.heap.size := by have := HPL.out; omega
          clear hpa
          refine bodyPost_ret (v := tv 3 (s.extract (j + 1) (j + 1 + m)) 0) (by simp [results, Tryd.results39, go_sem, *]) rfl (qu_closed (m := m) ?_ rfl ?_ ?_)
          · rw [HQ.out, HE.out, if_neg (by simp at t2; omega), if_pos (by simp at t2; omega)]
          · have h := HPA.out
            unfold Pa at h ⊢
            repeat (first | exact h | (refine Bk.far ?_ (by simpa using hne) _))
          · repeat (first | exact HW.out | (refine Wr.setn ?_ (by simp) _))
        · have t1 : ((s[j + 1 + m].toNat : Int) != 10) = true := by assumption
          have t2 : ((s[j + 1 + m].toNat : Int) == 34) = false := by assumption
          go_round
          case rel => exact ⟨m + 1, by omega, by go_num, by rw [HQ.out, HE.out, if_neg (by simp at t1; omega), if_neg (by simp at t2; omega), if_pos trivial]; rfl⟩
          case measure => simp [intOf]; omega
        · have t2 : ((s[j + 1 + m].toNat : Int) != 10) = false := by assumption
          exact ⟨rfl, qu_open (by rw [HQ.out, HE.out, if_pos (by simp at t2; omega)]) rfl ((Wr.refl p w).alloc _)⟩
    · have hsz : j + 1 + m = s.size := by omega
      go_wp2
      exact ⟨rfl, qu_open (by rw [HQ.out, hsz, drop_all, textL_nil]) rfl ((Wr.refl p w).alloc _)⟩
end Go.Proofs.YtonlmennpbklgaaDoor
