/- The reader's tree at a token that is a tree by itself. -/
import Derived.Test.YtonlmennpbklgaaDoorSq
namespace Go.Proofs.YtonlmennpbklgaaDoor
open Go.RowKit
set_option linter.unusedSimpArgs false
set_option linter.unusedVariables false

theorem Bk.set4 {w : World} {g : Nat} {t : TypeId} {a b c d : Value} (h : Bk w g t #[a, b, c, d]) (x0 x1 x2 x3 : Value) : Bk ((((w.setCell ⟨g, 0, none⟩ x0).setCell ⟨g, 1, none⟩ x1).setCell ⟨g, 2, none⟩ x2).setCell ⟨g, 3, none⟩ x3) g t #[x0, x1, x2, x3] := (((h.set 0 x0).set 1 x1).set 2 x2).set 3 x3
theorem Bk.far4 {w : World} {g' : Nat} {t : TypeId} {cs : Array Value} {g : Nat} (h : Bk w g' t cs) (hn : g' ≠ g) (x0 x1 x2 x3 : Value) : Bk ((((w.setCell ⟨g, 0, none⟩ x0).setCell ⟨g, 1, none⟩ x1).setCell ⟨g, 2, none⟩ x2).setCell ⟨g, 3, none⟩ x3) g' t cs := by
  unfold Bk at *; rw [heap_set4 _ _ _ hn]; exact h
theorem Wr.set4 {p : Nat} {a b : World} (h : Wr p a b) {g : Nat} (hg : a.heap.size ≤ g) (x0 x1 x2 x3 : Value) : Wr p a ((((b.setCell ⟨g, 0, none⟩ x0).setCell ⟨g, 1, none⟩ x1).setCell ⟨g, 2, none⟩ x2).setCell ⟨g, 3, none⟩ x3) :=
  (((h.setn (q := ⟨g, 0, none⟩) hg x0).setn (q := ⟨g, 1, none⟩) hg x1).setn (q := ⟨g, 2, none⟩) hg x2).setn (q := ⟨g, 3, none⟩) hg x3
theorem qu_lf {p j k : Nat} {s : ByteArray} {w w' : World} {e : Ending} (c : UInt8) (hc : c.toNat = 34) (h : QuPost p s j k w (textL (s.data.toList.drop (j + 1)) 0) e w') : LfPost p s j k w (leaf c (s.data.toList.drop (j + 1))) e w' := by
  unfold leaf
  rw [if_pos hc]
  cases hq : textL (s.data.toList.drop (j + 1)) 0 with
  | closed m =>
    rw [hq] at h
    obtain ⟨he, hp, hw⟩ := h
    refine ⟨?_, rfl, hp, hw⟩
    rw [he]
    congr 4
    have e : s.extract (j + 1) (j + 1 + m) = ⟨((s.data.toList.drop (j + 1)).take m).toArray⟩ := by
      apply ByteArray.ext; apply Array.toList_inj.1; rw [sub_list]
    rw [e]
  | wrong m => rw [hq] at h; exact h
  | unclosed => rw [hq] at h; exact h
set_option maxHeartbeats 6400000 in
set_option maxRecDepth 100000 in
theorem tree_quo_bad (p d i k : Nat) (s : ByteArray) (w : World) (hi : i < s.size) (hs : s.size ≤ 281474976710656) (hp : Pa w p s i k) (hp5 : 5 < p) (hla : Laid w) (hnb : Nb s[i]) (h41 : s[i].toNat ≠ 41) (h40 : s[i].toNat ≠ 40) (hq : s[i].toNat = 34) (hk : k ≤ 65536) (d' : Nat) (hlf : leaf s[i] (s.data.toList.drop (i + 1)) = .inl d') :
    Calls Tryd.prog 28 #[.pointer (some ⟨p, 0, none⟩), .int .i64 (d : Int)] w fun e w' => TreePost p s d i k w e w' := by
  have hD := drop_at s i hi
  have HRUN := Lib.hid (show ∀ (cur : List T) (rest : List (List T)), rest.length = d → run s.data.toList i (cur :: rest) k = .err (i + d') 31 from fun cur rest _ => run_leaf_bad hD hnb h41 h40 hlf)
  obtain ⟨hb1, hb2, hpa, hpl, hwr⟩ := two_trees p i k s w hp
  have HQ := Lib.hid ((quoted_any p i k s _ hpa hi hs).mono fun e w' h => qu_lf s[i] hq h)
  have HW := Lib.hid hwr
  have HB1 := Lib.hid hb1
  have HB2 := Lib.hid hb2
  have HPL := Lib.hid hpl
  obtain ⟨c0, c1, c2, f1, f2⟩ := hp.three
  rw [hlf] at HQ
  have H40 := Lib.hid h40
  have H34 := Lib.hid hq
  clear hp hpa hwr hb1 hb2 hk hp5 hla hnb h41 h40 hlf hD hq
  go_enter Tryd.func28, Tryd.ntmps28
  go_wp2_with fail
  -- only the quote's way is left
  · have t : ((s[i].toNat : Int) == 40) = true := by assumption
    exact absurd (by simp at t; omega) H40.out
  · refine (HQ.out).mono ?_
    rintro e w5 ⟨he, hw⟩
    unfold PanW at he
    subst he
    have HW5 := Lib.hid (HW.out.call hw)
    clear hw
    go_wp2
    exact ⟨rfl, tree_pan rfl HW5.out HRUN.out⟩
  · have t : ((s[i].toNat : Int) == 34) = false := by assumption
    have := H34.out
    simp at t
    omega
set_option maxHeartbeats 6400000 in
set_option maxRecDepth 100000 in
theorem tree_quo_many (p d i k : Nat) (s : ByteArray) (w : World) (hi : i < s.size) (hs : s.size ≤ 281474976710656) (hp : Pa w p s i k) (hp5 : 5 < p) (hla : Laid w) (hnb : Nb s[i]) (h41 : s[i].toNat ≠ 41) (h40 : s[i].toNat ≠ 40) (hq : s[i].toNat = 34) (hk : 65536 ≤ k) (hk2 : k ≤ 65536) (kd nd : Int) (sd : ByteArray) (ks : List T) (n : Nat) (hlf : leaf s[i] (s.data.toList.drop (i + 1)) = .inr (.node kd sd nd ks, n)) :
    Calls Tryd.prog 28 #[.pointer (some ⟨p, 0, none⟩), .int .i64 (d : Int)] w fun e w' => TreePost p s d i k w e w' := by
  have hD := drop_at s i hi
  have HRUN := Lib.hid (show ∀ (cur : List T) (rest : List (List T)), rest.length = d → run s.data.toList i (cur :: rest) k = .err i 33 from fun cur rest _ => run_leaf_many hD hnb h41 h40 hlf hk)
  obtain ⟨hb1, hb2, hpa, hpl, hwr⟩ := two_trees p i k s w hp
  have HQ := Lib.hid ((quoted_any p i k s _ hpa hi hs).mono fun e w' h => qu_lf s[i] hq h)
  have HW := Lib.hid hwr
  have HB1 := Lib.hid hb1
  have HB2 := Lib.hid hb2
  have HPL := Lib.hid hpl
  obtain ⟨c0, c1, c2, f1, f2⟩ := hp.three
  rw [hlf] at HQ
  have HC := Lib.hid (fun wx h => count_no p (i + n) k i s wx h hk hk2)
  have H40 := Lib.hid h40
  have H34 := Lib.hid hq
  clear hp hpa hwr hb1 hb2 hk hp5 hla hnb h41 h40 hlf hD hq hk2
  go_enter Tryd.func28, Tryd.ntmps28
  go_wp2_with fail
  -- only the quote's way is left
  · have t : ((s[i].toNat : Int) == 40) = true := by assumption
    exact absurd (by simp at t; omega) H40.out
  · refine (HQ.out).mono ?_
    rintro e w5 ⟨rfl, rfl, hpa5, hw⟩
    have HW5 := Lib.hid (HW.out.call hw)
    have hB1 := HB1.out.wr hw (by have := HPL.out; omega)
    have hB2 := HB2.out.wr hw (by have := HPL.out; omega)
    have HPA6 := Lib.hid (show Pa ((((w5.setCell ⟨w.heap.size + 1, 0, none⟩ (.int .i64 kd)).setCell ⟨w.heap.size + 1, 1, none⟩ (.string sd)).setCell ⟨w.heap.size + 1, 2, none⟩ (.int .i64 nd)).setCell ⟨w.heap.size + 1, 3, none⟩ (.slice none 0 0)) p s (i + n) k from by unfold Pa at *; exact Bk.far4 hpa5 (by have := HPL.out; omega) _ _ _ _)
    have HB6 := Lib.hid (hB1.far4 (g := w.heap.size + 1) (by omega) (.int .i64 kd) (.string sd) (.int .i64 nd) (.slice none 0 0))
    have HT6 := Lib.hid (hB2.set4 (.int .i64 kd) (.string sd) (.int .i64 nd) (.slice none 0 0))
    have HW6 := Lib.hid (HW5.out.set4 (g := w.heap.size + 1) (by omega) (.int .i64 kd) (.string sd) (.int .i64 nd) (.slice none 0 0))
    obtain ⟨r0, r1, r2, r3, q0, q1, q2, q3⟩ := hB2.four
    clear hw hpa5 hB1 hB2
    go_wp2_with fail
    refine (HC.out _ HPA6.out).mono ?_
    rintro e w7 ⟨he, hw7⟩
    unfold PanW at he
    subst he
    have HW7 := Lib.hid (HW6.out.call hw7)
    clear hw7
    go_wp2
    exact ⟨rfl, tree_pan rfl HW7.out HRUN.out⟩
  · have t : ((s[i].toNat : Int) == 34) = false := by assumption
    have := H34.out
    simp at t
    omega
set_option maxHeartbeats 6400000 in
set_option maxRecDepth 100000 in
theorem tree_quo_ok (p d i k : Nat) (s : ByteArray) (w : World) (hi : i < s.size) (hs : s.size ≤ 281474976710656) (hp : Pa w p s i k) (hp5 : 5 < p) (hla : Laid w) (hnb : Nb s[i]) (h41 : s[i].toNat ≠ 41) (h40 : s[i].toNat ≠ 40) (hq : s[i].toNat = 34) (hk : k < 65536) (kd nd : Int) (sd : ByteArray) (ks : List T) (n : Nat) (hlf : leaf s[i] (s.data.toList.drop (i + 1)) = .inr (.node kd sd nd ks, n)) :
    Calls Tryd.prog 28 #[.pointer (some ⟨p, 0, none⟩), .int .i64 (d : Int)] w fun e w' => TreePost p s d i k w e w' := by
  have hD := drop_at s i hi
  have HRUN := Lib.hid (show ∀ (cur : List T) (rest : List (List T)), rest.length = d → run s.data.toList i (cur :: rest) k = run s.data.toList (i + n) ((cur ++ [.node kd sd nd ks]) :: rest) (k + 1) from fun cur rest _ => run_leaf hD hnb h41 h40 hlf hk)
  have hln := leaf_len hlf
  have hsz : (s.data.toList.drop (i + 1)).length = s.size - (i + 1) := by simp
  rw [hsz] at hln
  obtain ⟨hb1, hb2, hpa, hpl, hwr⟩ := two_trees p i k s w hp
  have HQ := Lib.hid ((quoted_any p i k s _ hpa hi hs).mono fun e w' h => qu_lf s[i] hq h)
  have HW := Lib.hid hwr
  have HB1 := Lib.hid hb1
  have HB2 := Lib.hid hb2
  have HPL := Lib.hid hpl
  obtain ⟨c0, c1, c2, f1, f2⟩ := hp.three
  rw [hlf] at HQ
  have HC := Lib.hid (fun wx h => count_ok p (i + n) k i s wx h hk)
  have hk3 : k + 1 ≤ 65536 := by omega
  have HK3 := Lib.hid hk3
  have H40 := Lib.hid h40
  have H34 := Lib.hid hq
  clear hp hpa hwr hb1 hb2 hk hp5 hla hnb h41 h40 hlf hD hq hk3 hsz
  go_enter Tryd.func28, Tryd.ntmps28
  go_wp2_with fail
  -- only the quote's way is left
  · have t : ((s[i].toNat : Int) == 40) = true := by assumption
    exact absurd (by simp at t; omega) H40.out
  · refine (HQ.out).mono ?_
    rintro e w5 ⟨rfl, rfl, hpa5, hw⟩
    have HW5 := Lib.hid (HW.out.call hw)
    have hB1 := HB1.out.wr hw (by have := HPL.out; omega)
    have hB2 := HB2.out.wr hw (by have := HPL.out; omega)
    have HPA6 := Lib.hid (show Pa ((((w5.setCell ⟨w.heap.size + 1, 0, none⟩ (.int .i64 kd)).setCell ⟨w.heap.size + 1, 1, none⟩ (.string sd)).setCell ⟨w.heap.size + 1, 2, none⟩ (.int .i64 nd)).setCell ⟨w.heap.size + 1, 3, none⟩ (.slice none 0 0)) p s (i + n) k from by unfold Pa at *; exact Bk.far4 hpa5 (by have := HPL.out; omega) _ _ _ _)
    have HB6 := Lib.hid (hB1.far4 (g := w.heap.size + 1) (by omega) (.int .i64 kd) (.string sd) (.int .i64 nd) (.slice none 0 0))
    have HT6 := Lib.hid (hB2.set4 (.int .i64 kd) (.string sd) (.int .i64 nd) (.slice none 0 0))
    have HW6 := Lib.hid (HW5.out.set4 (g := w.heap.size + 1) (by omega) (.int .i64 kd) (.string sd) (.int .i64 nd) (.slice none 0 0))
    obtain ⟨r0, r1, r2, r3, q0, q1, q2, q3⟩ := hB2.four
    clear hw hpa5 hB1 hB2
    go_wp2_with fail
    refine (HC.out _ HPA6.out).mono ?_
    rintro e w7 ⟨rfl, hpa7, hw7⟩
    have HPA7 := Lib.hid hpa7
    have HW7 := Lib.hid (HW6.out.call hw7)
    obtain ⟨r4, r5, r6, r7, q4, q5, q6, q7⟩ := (HB6.out.wr hw7 (by have := HPL.out; omega)).four
    obtain ⟨s4, s5, s6, s7, _, _, _, _⟩ := (HT6.out.wr hw7 (by have := HPL.out; omega)).four
    clear hw7 hpa7
    go_wp2
    refine bodyPost_ret (v := tv kd sd nd) (by simp [results, Tryd.results28, go_sem, *]) rfl (tree_leaf (n := n) rfl ?_ hln.1 (by omega) HK3.out ?_ HRUN.out)
    · have h := HPA7.out
      unfold Pa at h ⊢
      exact Bk.far4 h (by have := HPL.out; omega) _ _ _ _
    · exact HW7.out.set4 (g := w.heap.size) (Nat.le_refl _) _ _ _ _
  · have t : ((s[i].toNat : Int) == 34) = false := by assumption
    have := H34.out
    simp at t
    omega
end Go.Proofs.YtonlmennpbklgaaDoor
