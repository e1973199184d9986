/- The reader's tree at a list. -/
import Derived.Test.YtonlmennpbklgaaDoorSp
namespace Go.Proofs.YtonlmennpbklgaaDoor
open Go.RowKit
set_option linter.unusedSimpArgs false
set_option linter.unusedVariables false

abbrev tz : Obj := .cells #[.int .i64 0, .string ⟨#[]⟩, .int .i64 0, .slice none 0 0] 38
theorem heap_set4 (w : World) (g b : Nat) (hb : b ≠ g) (x0 x1 x2 x3 : Value) : ((((w.setCell ⟨g, 0, none⟩ x0).setCell ⟨g, 1, none⟩ x1).setCell ⟨g, 2, none⟩ x2).setCell ⟨g, 3, none⟩ x3).heap[b]? = w.heap[b]? := by
  rw [Below.heap_setCell _ _ _ _ hb, Below.heap_setCell _ _ _ _ hb, Below.heap_setCell _ _ _ _ hb, Below.heap_setCell _ _ _ _ hb]
theorem size_set4 (w : World) (g : Nat) (x0 x1 x2 x3 : Value) : ((((w.setCell ⟨g, 0, none⟩ x0).setCell ⟨g, 1, none⟩ x1).setCell ⟨g, 2, none⟩ x2).setCell ⟨g, 3, none⟩ x3).heap.size = w.heap.size := by simp
theorem two_trees (p i k : Nat) (s : ByteArray) (w : World) (hp : Pa w p s i k) :
    Bk ((w.alloc tz).alloc tz) w.heap.size 38 #[.int .i64 0, .string ⟨#[]⟩, .int .i64 0, .slice none 0 0] ∧ Bk ((w.alloc tz).alloc tz) (w.heap.size + 1) 38 #[.int .i64 0, .string ⟨#[]⟩, .int .i64 0, .slice none 0 0] ∧ Pa ((w.alloc tz).alloc tz) p s i k ∧ p < w.heap.size ∧ Wr p w ((w.alloc tz).alloc tz) := by
  refine ⟨(Bk.new w _ _).alloc _, ?_, (hp.fr ((Fr.refl w).alloc _)).fr ((Fr.refl _).alloc _), Bk.lt hp, ((Wr.refl p w).alloc _).alloc _⟩
  have h := Bk.new (w.alloc tz) 38 #[.int .i64 0, .string ⟨#[]⟩, .int .i64 0, .slice none 0 0]
  rw [show (w.alloc tz).heap.size = w.heap.size + 1 by simp] at h
  exact h
/-- Behind p.at++, two trees laid. -/
theorem opn_world (p i k : Nat) (s : ByteArray) (w : World) (hp : Pa w p s i k) :
    Bk (((w.setCell ⟨p, 1, none⟩ (.int .i64 ((i : Int) + 1))).alloc tz).alloc tz) w.heap.size 38 #[.int .i64 0, .string ⟨#[]⟩, .int .i64 0, .slice none 0 0] ∧ Pa (((w.setCell ⟨p, 1, none⟩ (.int .i64 ((i : Int) + 1))).alloc tz).alloc tz) p s (i + 1) k ∧ p < w.heap.size ∧ Wr p w (((w.setCell ⟨p, 1, none⟩ (.int .i64 ((i : Int) + 1))).alloc tz).alloc tz) := by
  have hp1 := hp.seti (i + 1)
  rw [show ((i + 1 : Nat) : Int) = (i : Int) + 1 by omega] at hp1
  obtain ⟨b1, _, hpa, hpl, hwr⟩ := two_trees p (i + 1) k s _ hp1
  rw [show (w.setCell ⟨p, 1, none⟩ (.int .i64 ((i : Int) + 1))).heap.size = w.heap.size by simp] at b1
  exact ⟨b1, hpa, Bk.lt hp, ((Wr.refl p w).setp 1 _).call hwr⟩
set_option maxHeartbeats 6400000 in
set_option maxRecDepth 100000 in
theorem tree_opn_many (p d i k : Nat) (s : ByteArray) (w : World) (hi : i < s.size) (hs : s.size ≤ 281474976710656) (hk : 65536 ≤ k) (hk2 : k ≤ 65536) (hp : Pa w p s i k) (hc : s[i].toNat = 40) :
    Calls Tryd.prog 28 #[.pointer (some ⟨p, 0, none⟩), .int .i64 (d : Int)] w fun e w' => TreePost p s d i k w e w' := by
  have HRUN := Lib.hid (show ∀ (cur : List T) (rest : List (List T)), rest.length = d → run s.data.toList i (cur :: rest) k = .err i 33 from fun cur rest _ => run_opn_no (drop_at s i hi) hc (.inl hk))
  obtain ⟨hb1, hpa, hpl, hwr⟩ := opn_world p i k s w hp
  have HC := Lib.hid (count_no p (i + 1) k i s _ hpa hk hk2)
  have HW := Lib.hid hwr
  obtain ⟨c0, c1, c2, f1, f2⟩ := hp.three
  clear hp hpa hwr hk hk2 hb1
  go_enter Tryd.func28, Tryd.ntmps28
  go_wp2_with fail
  refine (HC.out).mono ?_
  rintro e w5 ⟨he, hw5⟩
  unfold PanW at he
  subst he
  have HW5 := Lib.hid (HW.out.call hw5)
  clear hw5
  go_wp2
  exact ⟨rfl, tree_pan rfl HW5.out HRUN.out⟩
set_option maxHeartbeats 6400000 in
set_option maxRecDepth 100000 in
theorem tree_opn_deep (p i k : Nat) (s : ByteArray) (w : World) (hi : i < s.size) (hs : s.size ≤ 281474976710656) (hk : k < 65536) (hp : Pa w p s i k) (hc : s[i].toNat = 40) :
    Calls Tryd.prog 28 #[.pointer (some ⟨p, 0, none⟩), .int .i64 32] w fun e w' => TreePost p s 32 i k w e w' := by
  have HRUN := Lib.hid (show ∀ (cur : List T) (rest : List (List T)), rest.length = 32 → run s.data.toList i (cur :: rest) k = .err i 33 from fun cur rest h => run_opn_no (drop_at s i hi) hc (.inr (by simp; omega)))
  obtain ⟨hb1, hpa, hpl, hwr⟩ := opn_world p i k s w hp
  have HC := Lib.hid (count_ok p (i + 1) k i s _ hpa hk)
  have HW := Lib.hid hwr
  obtain ⟨c0, c1, c2, f1, f2⟩ := hp.three
  clear hp hpa hwr hk hb1
  go_enter Tryd.func28, Tryd.ntmps28
  go_wp2_with fail
  refine (HC.out).mono ?_
  rintro e w5 ⟨rfl, hp5, hw5⟩
  have HW5 := Lib.hid (HW.out.call hw5)
  clear hw5 hp5
  go_wp2
  exact ⟨rfl, tree_pan rfl HW5.out HRUN.out⟩
set_option maxHeartbeats 6400000 in
set_option maxRecDepth 100000 in
theorem tree_opn (p d i k N : Nat) (s : ByteArray) (w : World) (ih : TreesC p s N) (hi : i < s.size) (hN : s.size - i ≤ N + 1) (hd : d < 32) (hs : s.size ≤ 281474976710656) (hk : k < 65536) (hp : Pa w p s i k) (hp5 : 5 < p) (hla : Laid w) (hc : s[i].toNat = 40) :
    Calls Tryd.prog 28 #[.pointer (some ⟨p, 0, none⟩), .int .i64 (d : Int)] w fun e w' => TreePost p s d i k w e w' := by
  have HRUN := Lib.hid (show ∀ (cur : List T) (rest : List (List T)), rest.length = d → run s.data.toList i (cur :: rest) k = run s.data.toList (i + 1) ([] :: cur :: rest) (k + 1) from fun cur rest h => run_opn (drop_at s i hi) hc hk (by simp; omega))
  obtain ⟨hb1, hpa, hpl, hwr⟩ := opn_world p i k s w hp
  have HC := Lib.hid (count_ok p (i + 1) k i s _ hpa hk)
  have HW := Lib.hid hwr
  have HB := Lib.hid hb1
  have HPL := Lib.hid hpl
  have hih := fun w h1 h2 => ih (d + 1) (i + 1) (k + 1) w (by omega) (by omega) (by omega) (by omega) h1 h2
  rw [show ((d + 1 : Nat) : Int) = (d : Int) + 1 by omega] at hih
  have HIH := Lib.hid hih
  have HLA := Lib.hid hla
  have HP5 := Lib.hid hp5
  have hd2 : ((d : Int) == 32) = false := by simp; omega
  have hd3 : (d : Int) ≤ 32 := by omega
  obtain ⟨c0, c1, c2, f1, f2⟩ := hp.three
  clear hp hpa hwr hk hb1 hih hla hp5 ih hN hd
  go_enter Tryd.func28, Tryd.ntmps28
  go_wp2_with fail
  refine (HC.out).mono ?_
  rintro e w5 ⟨rfl, hpa5, hw5⟩
  have HW5 := Lib.hid (HW.out.call hw5)
  have HB5 := Lib.hid (HB.out.wr hw5 (by have := HPL.out; omega))
  have HPA5 := Lib.hid hpa5
  clear hw5 hpa5
  go_wp2_with fail
  refine (HIH.out w5 HPA5.out (HLA.out.wr HW5.out HP5.out)).mono ?_
  rintro e w6 (⟨a, er, he, hw6, hr⟩ | ⟨l, A, c, rfl, hlc, hrd, hw6, _, hpos⟩)
  · unfold PanW at he
    subst he
    have HW6 := Lib.hid (HW5.out.call hw6)
    have HR := Lib.hid (show ∀ (cur : List T) (rest : List (List T)), rest.length = d → run s.data.toList i (cur :: rest) k = .err a er from fun cur rest h => (HRUN.out cur rest h).trans (hr (cur :: rest) (by simp; omega)))
    clear hw6 hr
    go_wp2
    exact ⟨rfl, tree_pan rfl HW6.out HR.out⟩
  · obtain ⟨j, k', hpa6, hij, hjs, hk', hr⟩ := hpos (by omega)
    have HPA6 := Lib.hid hpa6
    have HW6 := Lib.hid (HW5.out.call hw6)
    have HS6 := Lib.hid (show w.heap.size < w5.heap.size from Bk.lt HB5.out)
    obtain ⟨r0, r1, r2, r3, q0, q1, q2, q3⟩ := (HB5.out.wr hw6 (by have := HPL.out; omega)).four
    have HR := Lib.hid (show ∀ (cur : List T) (rest : List (List T)), rest.length = d → run s.data.toList i (cur :: rest) k = run s.data.toList j ((cur ++ [.node 4 ⟨#[]⟩ 0 l]) :: rest) k' from fun cur rest h => (HRUN.out cur rest h).trans (hr cur rest (by omega)))
    have HRD := Lib.hid hrd
    clear hpa6 hw6 hr hrd hpos
    go_wp2
    refine bodyPost_ret (v := .agg #[.int .i64 4, .string ⟨#[]⟩, .int .i64 0, .slice A l.length c]) (by simp [results, Tryd.results28, go_sem, *]) rfl (tree_list rfl hlc ?_ ?_ (by omega) hjs hk' ?_ HR.out)
    · refine RdL.mono (fun b hb => ?_) (fun b hb => heap_set4 _ _ _ (by have := HS6.out; have := hb.1; omega) _ _ _ _) HRD.out
      exact ⟨by have := HS6.out; have := hb.1; omega, by rw [size_set4]; exact hb.2⟩
    · have h := HPA6.out
      have hn := HPL.out
      unfold Pa at h ⊢
      repeat (first | exact h | (refine Bk.far ?_ (by simp; omega) _))
    · repeat (first | exact HW6.out | (refine Wr.setn ?_ (by simp) _))
end Go.Proofs.YtonlmennpbklgaaDoor
