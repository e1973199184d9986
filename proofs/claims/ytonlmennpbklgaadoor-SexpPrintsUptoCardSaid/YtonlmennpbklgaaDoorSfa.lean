/- The reader's run. -/
import Derived.Test.YtonlmennpbklgaaDoorSe
import Derived.Test.YtonlmennpbklgaaDoorSu
import Derived.Laws.Closers25
import Derived.Deep.RegionWith
import Derived.Lib.AtoiErrMem
namespace Go.Proofs.YtonlmennpbklgaaDoor
open Go.RowKit
set_option linter.unusedSimpArgs false
set_option linter.unusedVariables false

theorem digL_from (l : List UInt8) : ∀ a : Nat, digL (a : Int) l = (Lib.decFrom a l).map fun (m : Nat) => (m : Int) := by
  induction l with
  | nil => intro a; rfl
  | cons c r ih =>
    intro a
    rw [digL_cons]
    unfold Lib.decFrom Lib.digitVal
    by_cases h : 48 ≤ c.toNat ∧ c.toNat ≤ 57
    · rw [if_pos h, if_pos h]
      simp only
      rw [← ih (a * 10 + (c.toNat - 48))]
      congr 1; omega
    · rw [if_neg h, if_neg h]; rfl
theorem decNat_dec (u : Nat) : Lib.decNat (Lib.decDigits u) = some u := by
  unfold Lib.decNat
  have hne := dec_ne u
  have h := digL_from (Lib.decDigits u) 0
  rw [show ((0 : Nat) : Int) = 0 from rfl, digL_dec u] at h
  rw [if_neg (by simpa using hne)]
  cases e : Lib.decFrom 0 (Lib.decDigits u) with
  | none => rw [e] at h; cases h
  | some m => rw [e] at h; simp at h; congr 1; omega
theorem atoi_itoa {n : Int} (h : okN n) : Lib.atoiAll (Lib.itoa n) = .ok n := by
  obtain ⟨h1, h2⟩ := h
  unfold Lib.itoa
  by_cases hn : n < 0
  · rw [if_pos hn, Lib.atoiAll_minus, Lib.signed_short (dec_len (by omega)), decNat_dec]
    simp [Lib.NumEnd.ofOption]; omega
  · rw [if_neg hn]
    obtain ⟨c, r, e, d1, d2⟩ := first_digit n.toNat
    have hl : (Lib.decDigits n.toNat).length ≤ 18 := dec_len (by omega)
    have hd := decNat_dec n.toNat
    rw [e] at hl hd ⊢
    rw [Lib.atoiAll_plain c r (by omega) (by omega), Lib.signless_short hl, hd]
    simp [Lib.NumEnd.ofOption]; omega
/-- Which runs are numbers: what Atoi reads, within the bounds, and is written so. -/
theorem numL_none_of {w : List UInt8} (h : ∀ v, Lib.atoiAll w = .ok v → okN v → Lib.itoa v ≠ w) : numL w = none := by
  cases e : numL w with
  | none => rfl
  | some n =>
    obtain ⟨h1, h2⟩ := numL_some e
    exact absurd h1.symm (h n (by rw [h1]; exact atoi_itoa h2) h2)
def LfPost (p : Nat) (s : ByteArray) (j k : Nat) (w : World) (lf : Nat ⊕ (T × Nat)) (e : Ending) (w' : World) : Prop :=
  match lf with
  | .inl d => PanW (j + d) 31 e ∧ Wr p w w'
  | .inr (.node kd sd nd ks, n) => e = .returned (tv kd sd nd) ∧ ks = [] ∧ Pa w' p s (j + n) k ∧ Wr p w w'
theorem lf_bad {p j k d : Nat} {s : ByteArray} {w w' : World} {q : Nat ⊕ (T × Nat)} {e : Ending} (h : q = .inl d) (he : PanW (j + d) 31 e) (hw : Wr p w w') : LfPost p s j k w q e w' := by subst h; exact ⟨he, hw⟩
theorem lf_ok {p j k n : Nat} {kd nd : Int} {sd s : ByteArray} {w w' : World} {q : Nat ⊕ (T × Nat)} {e : Ending} (h : q = .inr (.node kd sd nd [], n)) (he : e = .returned (tv kd sd nd)) (hp : Pa w' p s (j + n) k) (hw : Wr p w w') : LfPost p s j k w q e w' := by subst h; exact ⟨he, rfl, hp, hw⟩
theorem ruN_split {c : UInt8} {r : List UInt8} (h : inB c = true) : ruN (c :: r) = ruN r + 1 := by rw [show ruN (c :: r) = if inB c then ruN r + 1 else 0 from rfl, if_pos h]
theorem ruN_none {c : UInt8} {r : List UInt8} (h : inB c = false) : ruN (c :: r) = 0 := by rw [show ruN (c :: r) = if inB c then ruN r + 1 else 0 from rfl, h]; rfl
theorem empty_no {s : ByteArray} (h : 0 < s.size) : s.toList.isEmpty = false := by
  rw [← decide_eq_emptyBytes]; exact decide_eq_false fun k => by subst k; simp at h
theorem empty_yes {s : ByteArray} (h : s.size = 0) : s.toList.isEmpty = true := by
  rw [← decide_eq_emptyBytes]; exact decide_eq_true (by apply ByteArray.ext; apply Array.eq_empty_of_size_eq_zero; exact h)
theorem sub_list (s : ByteArray) (j n : Nat) : (s.extract j (j + n)).data.toList = (s.data.toList.drop j).take n := by simp
theorem sub_head (s : ByteArray) (j n : Nat) (hn : 0 < n) (hj : j + n ≤ s.size) : 0 < (s.extract j (j + n)).size ∧ ∀ h : 0 < (s.extract j (j + n)).size, (s.extract j (j + n))[0] = s[j] := by
  refine ⟨by simp; omega, fun h => ?_⟩
  simp [ByteArray.getElem_extract]
theorem tree_block (p j k : Nat) (s : ByteArray) (w : World) (hp : Pa w p s j k) : Bk (w.alloc (.cells #[.int .i64 0, .string ⟨#[]⟩, .int .i64 0, .slice none 0 0] 38)) w.heap.size 38 #[.int .i64 0, .string ⟨#[]⟩, .int .i64 0, .slice none 0 0] ∧ Pa (w.alloc (.cells #[.int .i64 0, .string ⟨#[]⟩, .int .i64 0, .slice none 0 0] 38)) p s j k ∧ p ≠ w.heap.size ∧ Wr p w (w.alloc (.cells #[.int .i64 0, .string ⟨#[]⟩, .int .i64 0, .slice none 0 0] 38)) :=
  ⟨Bk.new w _ _, hp.fr ((Fr.refl w).alloc _), by have := Bk.lt hp; omega, (Wr.refl p w).alloc _⟩
set_option maxHeartbeats 6400000 in
set_option maxRecDepth 100000 in
theorem run_none (p j k : Nat) (s : ByteArray) (w : World) (hp : Pa w p s j k) (hj : j < s.size) (hs : s.size ≤ 281474976710656) (hc : inB s[j] = false) (hq : s[j].toNat ≠ 34) :
    Calls Tryd.prog 40 #[.pointer (some ⟨p, 0, none⟩)] w fun e w' => LfPost p s j k w (leaf s[j] (s.data.toList.drop (j + 1))) e w' := by
  have hlf : leaf s[j] (s.data.toList.drop (j + 1)) = .inl 0 := by unfold leaf; rw [if_neg hq, if_neg (by simp [hc])]
  have hD := drop_at s j hj
  have hrl := runLen_any (s.extract j s.size)
  rw [tail_of, hD, ruN_none hc] at hrl
  have HL := Lib.hid (show ∀ w : World, Calls Tryd.prog 49 #[.string (s.extract j s.size)] w fun e w' => e = .returned (.int .i64 0) ∧ w = w' from fun w => hrl w (by simp; unfold maxLen; omega))
  rw [hlf]
  obtain ⟨hb, hp0, hne, hwr⟩ := tree_block p j k s w hp
  have HWR := Lib.hid hwr
  obtain ⟨c0, c1, c2, f1, f2⟩ := hp0.three
  have hj2 : (j : Int) ≤ (s.size : Int) := by omega
  have hsl := slice_at s j j (Nat.le_refl _) (by omega)
  have hem := empty_yes (s := s.extract j j) (by simp)
  clear hlf hD hrl hc hq hp hb hne hwr hp0
  go_enter Tryd.func40, Tryd.ntmps40
  go_wp2
  go_region_with (first | (go_at_call 49; refine (HL.out _).mono ?_; rintro e w' ⟨rfl, rfl⟩))
  all_goals
    go_wp2
    go_quiet (fail)
    go_wp2
    exact ⟨rfl, lf_bad rfl rfl (by repeat (first | exact HWR.out | apply Wr.drewN | apply Wr.drew | (refine Wr.setp ?_ _ _)))⟩
end Go.Proofs.YtonlmennpbklgaaDoor
