/- What the document's Put answers. -/
import Derived.Test.YtoookfhaeojfiaaLit
namespace Go.Proofs.Ytoookfhaeojfiaa
open Go.RowKit

set_option maxHeartbeats 1600000 in
theorem rput_no (A : Option Addr) (m c : Nat) (p n v : Int) (hm : m ≤ maxLen) (h : ¬ Lies m p n) (w : World) :
    Calls Try.prog 11 #[.slice A m c, .int .i64 p, .int .i64 n, .int .u64 v] w fun e w' => e = .returned (.tuple #[.slice none 0 0, .int .i64 21]) ∧ w = w' := by
  have HA := Lib.hid (fun wx => has_no A m c p n hm h wx)
  clear h
  go_enter Try.func11, Try.ntmps11
  go_wp2_with (first | (go_at_call 21; refine (HA.out _).mono ?_; rintro e w1 ⟨rfl, rfl⟩))
  go_ret2
  exact ⟨rfl, rfl⟩
set_option maxHeartbeats 3200000 in
theorem rput_yes (A : Option Addr) (c a k : Nat) (l : List Int) (v : Int) (v0 : 0 ≤ v) (v1 : v < 18446744073709551616) (hm : l.length ≤ 140737488351232) (hlc : l.length ≤ c) (hcm : c ≤ maxLen) (h : Lies l.length a k) (w : World) (hr : Rd u8v w A l) :
    Calls Try.prog 11 #[.slice A l.length c, .int .i64 (a : Int), .int .i64 (k : Int), .int .u64 v] w fun e w' => ∃ x, e = .returned (.tuple #[x, .int .i64 0]) ∧ Own u8v w' w.heap.size 5 x (putI l a k v) ∧ Fr w w' := by
  have hmm : l.length ≤ maxLen := by unfold maxLen; omega
  have HA := Lib.hid (fun wx => has_yes A l.length c a k hmm h wx)
  obtain ⟨h1, h2, h3, h4⟩ := h
  have hl : a + k ≤ l.length := by omega
  have hk : k ≤ 8 := by omega
  have hla : a ≤ c := by omega
  have HR := Lib.hid hr
  have HL := Lib.hid (fun wx => little_any k v v0 v1 hk wx)
  unfold maxLen at hcm hmm
  clear hr h1 h2 h3 h4
  go_enter Try.func11, Try.ntmps11
  go_wp2_with (first | (go_at_call 21; refine (HA.out _).mono ?_; rintro e w1 ⟨rfl, rfl⟩) | (at_builtin; refine wpList_append_rd one_u8' _ rfl (.tmp 16) (.tmp 19) 22 rfl w.heap.size 5 Try.underlying22 Try.info5 rfl (.slice (some ⟨w.heap.size, 0, none⟩) 0 0) [] rfl (own_new w) A a c (l.take a) rfl (by simp; omega) ((HR.out.front a (by omega)).alloc _) ?_ ?_ ?_ ?_))
  · simp; unfold maxLen; omega
  · simp; omega
  · simp
  intro x1 w1 HG
  have HO1 := Lib.hid HG.out.own
  have HF1 := Lib.hid (HG.out.fr ((Fr.refl w).alloc _) (Nat.le_refl _) (own_new w).base_le)
  clear HG
  have EL := Lib.hid (litI_length k v)
  generalize hLL : litI k v = LL at *
  have HLL := Lib.hid hLL
  clear hLL
  go_wp2_with (first
    | (go_at_call 14
       refine (HL.out _).mono ?_
       rintro e w2 ⟨x2, rfl, HO2, HF2⟩
       have HO2' := Lib.hid HO2
       obtain ⟨A2, c2, rfl, _, _, HR2⟩ := HO2.val
       have HR2' := Lib.hid HR2
       have HF2' := Lib.hid HF2
       clear HO2 HR2 HF2)
    | (at_builtin; refine wpList_append_rd one_u8' _ rfl (.tmp 21) (.tmp 24) 22 rfl w.heap.size 5 Try.underlying22 Try.info5 rfl x1 (l.take a) rfl (HO1.out.fr HF2'.out) A2 LL.length c2 LL rfl rfl HR2'.out ?_ ?_ ?_ ?_))
  · rw [EL.out]; simp; unfold maxLen; omega
  · rw [EL.out]; simp; omega
  · have := (HF1.out.call HF2'.out).size; exact this
  intro x3 w3 HG
  have HF3 := Lib.hid (HG.out.fr (HF1.out.call HF2'.out) (Nat.le_refl _) HO1.out.base_le)
  have HO3 := Lib.hid HG.out.own
  have HR3 := Lib.hid ((HR.out.fr HF3.out).rest (a + k) (by omega) (B := if c = a + k then A else A.map (·.add (a + k))) (fun h => if_neg (by omega)))
  clear HG
  have eb : (a : Int) + (k : Int) ≤ (l.length : Int) := by omega
  go_wp2_with (first
    | (at_builtin; refine wpList_append_rd one_u8' _ rfl (.tmp 26) (.tmp 31) 22 rfl w.heap.size 5 Try.underlying22 Try.info5 rfl x3 (l.take a ++ LL) rfl HO3.out (if c = a + k then A else A.map (·.add (a + k))) (l.length - (a + k)) (c - (a + k)) (l.drop (a + k)) rfl (by simp) HR3.out ?_ ?_ ?_ ?_))
  · rw [List.length_append, EL.out, List.length_take]; unfold maxLen; omega
  · rw [List.length_append, EL.out, List.length_take]; omega
  · exact HF3.out.size
  all_goals
    intro x4 w4 HG
    have HF4 := Lib.hid (HG.out.fr HF3.out (Nat.le_refl _) HO3.out.base_le)
    have HO4 := Lib.hid HG.out.own
    clear HG
    go_wp2
    go_ret2
    exact ⟨_, rfl, by have h := HO4.out; rw [← HLL.out, ← List.append_assoc] at h; exact h, HF4.out⟩
end Go.Proofs.Ytoookfhaeojfiaa
