/- The sum of two sums: the document's Plus. -/
import Derived.Test.YtbnaakognnkhdaaGreatDoorNd
import Derived.Deep.CutRange
import Derived.Deep.CutBlock
namespace Go.Proofs.YtbnaakognnkhdaaGreatDoor
open Go.RowKit
set_option linter.unusedSimpArgs false
set_option linter.unusedVariables false

/-- Ahead, if it counts. -/
def pushP (s : ByteArray) (n : Int) (l : List (ByteArray × Int)) : List (ByteArray × Int) := if n = 0 then l else (s, n) :: l
def mul64 (k t : Int) : Int := wrap64 (k * t)
def add64 (a b : Int) : Int := wrap64 (a + b)
/-- The sum of two lists, the second one k times. -/
def mergeP (k : Int) : List (ByteArray × Int) → List (ByteArray × Int) → List (ByteArray × Int)
  | [], [] => []
  | x :: r, [] => pushP x.1 x.2 (mergeP k r [])
  | [], y :: s => pushP y.1 (mul64 k y.2) (mergeP k [] s)
  | x :: r, y :: s => if ltB x.1 y.1 then pushP x.1 x.2 (mergeP k r (y :: s)) else if ltB y.1 x.1 then pushP y.1 (mul64 k y.2) (mergeP k (x :: r) s) else pushP x.1 (add64 x.2 (mul64 k y.2)) (mergeP k r s)
termination_by l m => l.length + m.length
def fsts (l : List (ByteArray × Int)) : List ByteArray := l.map Prod.fst
def snds (l : List (ByteArray × Int)) : List Int := l.map Prod.snd
section
variable {P1 P2 : List (ByteArray × Int)} {k : Int} {i j : Nat}
theorem merge_a1 (hi : i < P1.length) (hj : P2.length ≤ j) : mergeP k (P1.drop i) (P2.drop j) = pushP P1[i].1 P1[i].2 (mergeP k (P1.drop (i + 1)) (P2.drop j)) := by
  rw [List.drop_eq_getElem_cons hi, List.drop_eq_nil_of_le hj, mergeP]
theorem merge_b1 (hi : P1.length ≤ i) (hj : j < P2.length) : mergeP k (P1.drop i) (P2.drop j) = pushP P2[j].1 (mul64 k P2[j].2) (mergeP k (P1.drop i) (P2.drop (j + 1))) := by
  rw [List.drop_eq_nil_of_le hi, List.drop_eq_getElem_cons hj, mergeP]
theorem merge_a2 (hi : i < P1.length) (hj : j < P2.length) (h : ltB P1[i].1 P2[j].1 = true) : mergeP k (P1.drop i) (P2.drop j) = pushP P1[i].1 P1[i].2 (mergeP k (P1.drop (i + 1)) (P2.drop j)) := by
  rw [List.drop_eq_getElem_cons hi, List.drop_eq_getElem_cons hj, mergeP, if_pos h]
theorem merge_b2 (hi : i < P1.length) (hj : j < P2.length) (h : ltB P1[i].1 P2[j].1 = false) (h2 : ltB P2[j].1 P1[i].1 = true) : mergeP k (P1.drop i) (P2.drop j) = pushP P2[j].1 (mul64 k P2[j].2) (mergeP k (P1.drop i) (P2.drop (j + 1))) := by
  rw [List.drop_eq_getElem_cons hi, List.drop_eq_getElem_cons hj, mergeP, if_neg (by rw [h]; decide), if_pos h2]
theorem merge_c (hi : i < P1.length) (hj : j < P2.length) (h : ltB P1[i].1 P2[j].1 = false) (h2 : ltB P2[j].1 P1[i].1 = false) : mergeP k (P1.drop i) (P2.drop j) = pushP P1[i].1 (add64 P1[i].2 (mul64 k P2[j].2)) (mergeP k (P1.drop (i + 1)) (P2.drop (j + 1))) := by
  rw [List.drop_eq_getElem_cons hi, List.drop_eq_getElem_cons hj, mergeP, if_neg (by rw [h]; decide), if_neg (by rw [h2]; decide)]
theorem merge_end (hi : P1.length ≤ i) (hj : P2.length ≤ j) : mergeP k (P1.drop i) (P2.drop j) = [] := by
  rw [List.drop_eq_nil_of_le hi, List.drop_eq_nil_of_le hj, mergeP]
theorem push_len (s : ByteArray) (n : Int) (l : List (ByteArray × Int)) : (pushP s n l).length ≤ l.length + 1 := by
  unfold pushP; split <;> simp
end
/-- One step of the merge: what is taken, and what is left. -/
structure StepP (P1 P2 : List (ByteArray × Int)) (k : Int) (i j i' j' : Nat) (s : ByteArray) (nv : Int) : Prop where
  eq : mergeP k (P1.drop i) (P2.drop j) = pushP s nv (mergeP k (P1.drop i') (P2.drop j'))
  hi : i' ≤ P1.length
  hj : j' ≤ P2.length
  more : i + j < i' + j'
  mono : i ≤ i' ∧ j ≤ j'
def CutP (P1 P2 : List (ByteArray × Int)) (k : Int) (i j : Nat) (wr : World) (s8 s9 s10 s11 : Value) (wx : World) : Prop :=
  ∃ (i' j' : Nat) (s : ByteArray) (nv : Int), s8 = .int .i64 (i' : Int) ∧ s9 = .int .i64 (j' : Int) ∧ s10 = .int .i64 nv ∧ s11 = .string s ∧ StepP P1 P2 k i j i' j' s nv ∧ Fr wr wx
/-- The sum that grows: a block of three cells, two rows of its own. -/
structure OutP (W : World) (ob : Nat) (acc : List (ByteArray × Int)) (off : Int) (v1 v2 : Value) (wr : World) : Prop where
  fr : Fr W wr
  lo : W.heap.size ≤ ob
  c0 : wr.cell? ⟨ob, 0, none⟩ = some v1
  c1 : wr.cell? ⟨ob, 1, none⟩ = some v2
  c2 : wr.cell? ⟨ob, 2, none⟩ = some (.int .i64 off)
  f0 : wr.frozen? ⟨ob, 0, none⟩ = false
  f1 : wr.frozen? ⟨ob, 1, none⟩ = false
  o1 : Own strv wr (ob + 1) 9 v1 (fsts acc)
  o2 : Own intv wr (ob + 1) 3 v2 (snds acc)
  apart : ∀ g, v1.ownBlock = some g → v2.ownBlock ≠ some g
theorem OutP.call {W : World} {ob : Nat} {acc : List (ByteArray × Int)} {off : Int} {v1 v2 : Value} {wr wx : World} (h : OutP W ob acc off v1 v2 wr) (k : Fr wr wx) : OutP W ob acc off v1 v2 wx :=
  ⟨h.fr.call k, h.lo, k.get h.c0, k.get h.c1, k.get h.c2, k.free h.c0 h.f0, k.free h.c1 h.f1, h.o1.fr k, h.o2.fr k, h.apart⟩
theorem rd_one {α : Type} {f : α → Value} (w : World) (t : TypeId) (x : α) : Rd f (w.alloc (.cells #[f x] t)) (some ⟨w.heap.size, 0, none⟩) [x] := fun _ =>
  ⟨w.heap.size, 0, rfl, by simp, fun i hi => by
    obtain rfl : i = 0 := by simp at hi; omega
    exact BlkC.alloc (w := w) (t := t) (cs := #[f x]) 0 _ rfl⟩
theorem rd_one' {α : Type} {f : α → Value} (w : World) (t : TypeId) (x : α) {g : Nat} (hg : g = w.heap.size) : Rd f (w.alloc (.cells #[f x] t)) (some ⟨g, 0, none⟩) [x] := by subst hg; exact rd_one w t x
theorem cell_heap {w w' : World} {b o : Nat} (h : w'.heap[b]? = w.heap[b]?) : w'.cell? ⟨b, o, none⟩ = w.cell? ⟨b, o, none⟩ := by simp [World.cell?, h]
theorem grew_cell {w w' : World} {row : Option Nat} {b o : Nat} {v : Value} (k : w.grownBy w' row) (hb : row ≠ some b) (h : w.cell? ⟨b, o, none⟩ = some v) : w'.cell? ⟨b, o, none⟩ = some v :=
  (cell_heap (World.grownBy.block k b (lt_of_cell h) (fun e => hb e.symm))).trans h
theorem grew_free {w w' : World} {row : Option Nat} {b o : Nat} {v : Value} (k : w.grownBy w' row) (hb : row ≠ some b) (h : w.cell? ⟨b, o, none⟩ = some v) (hf : w.frozen? ⟨b, o, none⟩ = false) : w'.frozen? ⟨b, o, none⟩ = false := by
  have e := World.grownBy.block k b (lt_of_cell h) (fun e => hb e.symm)
  simpa [World.frozen?, e] using hf
section
variable {W : World} {ob : Nat} {acc : List (ByteArray × Int)} {off : Int} {v1 v2 v1' v2' : Value} {wc w1 w2 : World} {s : ByteArray} {n : Int} {o : Obj}
theorem own_ne {α : Type} {f : α → Value} {w : World} {e : TypeId} {v : Value} {l : List α} (h : Own f w (ob + 1) e v l) : v.ownBlock ≠ some ob := fun e => by have := h.base_le ob e; omega
theorem OutP.push1 (h : OutP W ob acc off v1 v2 wc) (hg : Grew strv (wc.alloc o) (ob + 1) 9 v1 (fsts acc ++ [s]) v1' w1) :
    w1.cell? ⟨ob, 0, none⟩ = some v1 ∧ w1.cell? ⟨ob, 1, none⟩ = some v2 ∧ w1.cell? ⟨ob, 2, none⟩ = some (.int .i64 off) ∧ w1.frozen? ⟨ob, 0, none⟩ = false ∧ w1.frozen? ⟨ob, 1, none⟩ = false ∧ ob < w1.heap.size := by
  have k := (Fr.refl wc).alloc o
  have hn := own_ne h.o1
  have c := grew_cell hg.2.1 hn (k.get h.c0)
  exact ⟨c, grew_cell hg.2.1 hn (k.get h.c1), grew_cell hg.2.1 hn (k.get h.c2), grew_free hg.2.1 hn (k.get h.c0) (k.free h.c0 h.f0), grew_free hg.2.1 hn (k.get h.c1) (k.free h.c1 h.f1), lt_of_cell c⟩
/-- Between the two appends: the names are one more. -/
structure MidP (W : World) (ob : Nat) (acc : List (ByteArray × Int)) (s : ByteArray) (off : Int) (v1' v2 : Value) (w1 : World) : Prop where
  fr : Fr W w1
  lo : W.heap.size ≤ ob
  c0 : w1.cell? ⟨ob, 0, none⟩ = some v1'
  c1 : w1.cell? ⟨ob, 1, none⟩ = some v2
  c2 : w1.cell? ⟨ob, 2, none⟩ = some (.int .i64 off)
  f0 : w1.frozen? ⟨ob, 0, none⟩ = false
  f1 : w1.frozen? ⟨ob, 1, none⟩ = false
  o1 : Own strv w1 (ob + 1) 9 v1' (fsts acc ++ [s])
  o2 : Own intv w1 (ob + 1) 3 v2 (snds acc)
  apart : ∀ g, v2.ownBlock = some g → v1'.ownBlock ≠ some g
theorem OutP.done1 (h : OutP W ob acc off v1 v2 wc) (hg : Grew strv (wc.alloc o) (ob + 1) 9 v1 (fsts acc ++ [s]) v1' w1) : MidP W ob acc s off v1' v2 (w1.setCell ⟨ob, 0, none⟩ v1') := by
  obtain ⟨d0, d1, d2, e0, e1, zw⟩ := h.push1 hg
  have hk : Fr W (wc.alloc o) := h.fr.alloc o
  have hb : w1.grownBy (w1.setCell ⟨ob, 0, none⟩ v1') (some ob) := grown_set (World.grownBy.refl w1 _)
  have ho2 : Own intv w1 (ob + 1) 3 v2 (snds acc) := grew_kept hg (h.o2.alloc o) (by
    cases hv : v2.ownBlock with
    | none => exact .inl rfl
    | some g => exact .inr (fun e => h.apart g e.symm hv))
  refine ⟨(hg.fr hk (by have := h.lo; omega) h.o1.base_le).set (p := ⟨ob, 0, none⟩) h.lo _, h.lo, by simp [go_sem, *], by simp [go_sem, *], by simp [go_sem, *], by simp [go_sem, *], by simp [go_sem, *], own_other hg.own (by omega) hb, own_other ho2 (by omega) hb, fun g hv2 hv1 => ?_⟩
  rcases hg.2.2 with e | e
  · rw [hv1] at e
    exact h.apart g e.symm hv2
  · rw [hv1] at e
    injection e with e
    have := (World.ownsRow.lt h.o2 g hv2).2
    simp at e
    omega
theorem MidP.push2 (h : MidP W ob acc s off v1' v2 wc) (hg : Grew intv (wc.alloc o) (ob + 1) 3 v2 (snds acc ++ [n]) v2' w2) :
    w2.cell? ⟨ob, 0, none⟩ = some v1' ∧ w2.cell? ⟨ob, 1, none⟩ = some v2 ∧ w2.cell? ⟨ob, 2, none⟩ = some (.int .i64 off) ∧ w2.frozen? ⟨ob, 0, none⟩ = false ∧ w2.frozen? ⟨ob, 1, none⟩ = false ∧ ob < w2.heap.size := by
  have k := (Fr.refl wc).alloc o
  have hn := own_ne h.o2
  have c := grew_cell hg.2.1 hn (k.get h.c0)
  exact ⟨c, grew_cell hg.2.1 hn (k.get h.c1), grew_cell hg.2.1 hn (k.get h.c2), grew_free hg.2.1 hn (k.get h.c0) (k.free h.c0 h.f0), grew_free hg.2.1 hn (k.get h.c1) (k.free h.c1 h.f1), lt_of_cell c⟩
theorem MidP.done2 (h : MidP W ob acc s off v1' v2 wc) (hg : Grew intv (wc.alloc o) (ob + 1) 3 v2 (snds acc ++ [n]) v2' w2) : OutP W ob (acc ++ [(s, n)]) off v1' v2' (w2.setCell ⟨ob, 1, none⟩ v2') := by
  obtain ⟨d0, d1, d2, e0, e1, zw⟩ := h.push2 hg
  have hk : Fr W (wc.alloc o) := h.fr.alloc o
  have hb : w2.grownBy (w2.setCell ⟨ob, 1, none⟩ v2') (some ob) := grown_set (World.grownBy.refl w2 _)
  have ho1 : Own strv w2 (ob + 1) 9 v1' (fsts acc ++ [s]) := grew_kept hg (h.o1.alloc o) (by
    cases hv : v1'.ownBlock with
    | none => exact .inl rfl
    | some g => exact .inr (fun e => h.apart g e.symm hv))
  refine ⟨(hg.fr hk (by have := h.lo; omega) h.o2.base_le).set (p := ⟨ob, 1, none⟩) h.lo _, h.lo, by simp [go_sem, *], by simp [go_sem, *], by simp [go_sem, *], by simp [go_sem, *], by simp [go_sem, *], ?_, ?_, fun g hv1 hv2 => ?_⟩
  · have := own_other ho1 (by omega) hb
    simpa [fsts] using this
  · have := own_other hg.own (by omega) hb
    simpa [snds] using this
  · rcases hg.2.2 with e | e
    · rw [hv2] at e
      exact h.apart g e.symm hv1
    · rw [hv2] at e
      injection e with e
      have := (World.ownsRow.lt h.o1 g hv1).2
      simp at e
      omega
end
def RelP (P1 P2 : List (ByteArray × Int)) (k : Int) (W : World) (ob : Nat) (off : Int) (s8 s9 : Value) (wr : World) : Prop :=
  ∃ (i j : Nat) (acc : List (ByteArray × Int)) (v1 v2 : Value), i ≤ P1.length ∧ j ≤ P2.length ∧ s8 = .int .i64 (i : Int) ∧ s9 = .int .i64 (j : Int) ∧
    mergeP k P1 P2 = acc ++ mergeP k (P1.drop i) (P2.drop j) ∧ acc.length ≤ i + j ∧ OutP W ob acc off v1 v2 wr
set_option maxHeartbeats 6400000 in
set_option maxRecDepth 100000 in
theorem plus_any (P1 P2 : List (ByteArray × Int)) (o1 o2 k : Int) (A B A' B' : Option Addr) (c d c' d' n m : Nat) (w : World) (hn : P1.length = n) (hm : P2.length = m) (hn1 : n ≤ 1000) (hm1 : m ≤ 1000)
    (ha : Rd strv w A (fsts P1)) (hb : Rd intv w B (snds P1)) (ha' : Rd strv w A' (fsts P2)) (hb' : Rd intv w B' (snds P2)) :
    Calls Tryz.prog 12 #[.agg #[.slice A n c, .slice B n d, .int .i64 o1], .agg #[.slice A' m c', .slice B' m d', .int .i64 o2], .int .i64 k] w fun e w' => ∃ v, e = .returned v ∧ LnF (New w w') w' v (fsts (mergeP k P1 P2)) (snds (mergeP k P1 P2)) (add64 o1 (mul64 k o2)) ∧ Fr w w' := by
  have HA := Lib.hid ha
  have HB := Lib.hid hb
  have HA' := Lib.hid ha'
  have HB' := Lib.hid hb'
  have HLA := Lib.hid hn
  have HLB := Lib.hid hm
  have hk2 : mul64 k o2 = wrap64 (k * o2) := rfl
  have hoff : add64 o1 (mul64 k o2) = wrap64 (o1 + wrap64 (k * o2)) := rfl
  obtain ⟨off, ho⟩ : ∃ off, add64 o1 (mul64 k o2) = off := ⟨_, rfl⟩
  rw [ho] at hoff ⊢
  have HO := Lib.hid hoff
  obtain ⟨b, hb0⟩ : ∃ b, w.heap.size = b := ⟨_, rfl⟩
  have HN := Lib.hid hb0
  have HF1 := Lib.hid (((Fr.refl w).alloc (.cells #[.slice A n c, .slice B n d, .int .i64 o1] 25)).alloc (.cells #[.slice A' m c', .slice B' m d', .int .i64 o2] 25))
  have HB1 := Lib.hid (show BlkC ((w.alloc (.cells #[.slice A n c, .slice B n d, .int .i64 o1] 25)).alloc (.cells #[.slice A' m c', .slice B' m d', .int .i64 o2] 25)) b [.slice A n c, .slice B n d, .int .i64 o1] from by
    rw [← hb0]; exact BlkC.alloc.fr ((Fr.refl _).alloc _))
  have HB2 := Lib.hid (show BlkC ((w.alloc (.cells #[.slice A n c, .slice B n d, .int .i64 o1] 25)).alloc (.cells #[.slice A' m c', .slice B' m d', .int .i64 o2] 25)) (b + 1) [.slice A' m c', .slice B' m d', .int .i64 o2] from by
    have := BlkC.alloc (w := w.alloc (.cells #[.slice A n c, .slice B n d, .int .i64 o1] 25)) (t := 25) (cs := #[.slice A' m c', .slice B' m d', .int .i64 o2])
    simpa [hb0] using this)
  have HZ1 := Lib.hid (show ((w.alloc (.cells #[.slice A n c, .slice B n d, .int .i64 o1] 25)).alloc (.cells #[.slice A' m c', .slice B' m d', .int .i64 o2] 25)).heap.size = b + 2 by simp [hb0])
  clear ha hb ha' hb' hn hm hk2 hoff ho
  go_enter Tryz.func12, Tryz.ntmps12
  go_wp2_with fail
  rw [← HO.out]
  try simp only [hb0]
  generalize World.alloc (World.alloc w (.cells #[.slice A n c, .slice B n d, .int .i64 o1] 25)) (.cells #[.slice A' m c', .slice B' m d', .int .i64 o2] 25) = W2 at *
  have HW2 := Lib.hid (Fr.refl W2)
  have HRZ := Lib.hid (show BlkC (W2.alloc (.cells #[.slice none 0 0, .slice none 0 0, .int .i64 0] 25)) (b + 2) [.slice none 0 0, .slice none 0 0, .int .i64 0] from by
    rw [← HZ1.out]; exact BlkC.alloc)
  have HFZ := Lib.hid (show ∀ q, (W2.alloc (.cells #[.slice none 0 0, .slice none 0 0, .int .i64 0] 25)).frozen? ⟨b + 2, q, none⟩ = false from fun q => World.frozen?_alloc_at _ _ _ _ (by simp [HZ1.out]))
  have HOP := Lib.hid (show OutP (W2.alloc (.cells #[.slice none 0 0, .slice none 0 0, .int .i64 0] 25)) (b + 3) [] off (.slice none 0 0) (.slice none 0 0) ((W2.alloc (.cells #[.slice none 0 0, .slice none 0 0, .int .i64 0] 25)).alloc (.cells #[.slice none 0 0, .slice none 0 0, .int .i64 off] 25)) from by
    have hz : (W2.alloc (.cells #[.slice none 0 0, .slice none 0 0, .int .i64 0] 25)).heap.size = b + 3 := by simp [HZ1.out]
    have hB := BlkC.alloc (w := W2.alloc (.cells #[.slice none 0 0, .slice none 0 0, .int .i64 0] 25)) (t := 25) (cs := #[.slice none 0 0, .slice none 0 0, .int .i64 off])
    rw [hz] at hB
    exact ⟨(Fr.refl _).alloc _, by omega, hB 0 _ rfl, hB 1 _ rfl, hB 2 _ rfl, World.frozen?_alloc_at _ _ _ _ (by simp [HZ1.out]), World.frozen?_alloc_at _ _ _ _ (by simp [HZ1.out]), Own.nil, Own.nil, fun g h => by cases h⟩)
  have HW3 := Lib.hid (show Fr W2 (W2.alloc (.cells #[.slice none 0 0, .slice none 0 0, .int .i64 0] 25)) from (Fr.refl _).alloc _)
  have HZ3 := Lib.hid (show (W2.alloc (.cells #[.slice none 0 0, .slice none 0 0, .int .i64 0] 25)).heap.size = b + 3 by simp [HZ1.out])
  clear hb0
  simp only [Nat.add_assoc, Nat.reduceAdd]
  go_loopw [8, 9] (fun s8 s9 wr => RelP P1 P2 k (W2.alloc (.cells #[.slice none 0 0, .slice none 0 0, .int .i64 0] 25)) (b + 3) off s8 s9 wr) (fun s8 s9 _ => n + m - ((intOf s8).toNat + (intOf s9).toNat))
  case atStart => exact ⟨0, 0, [], _, _, Nat.zero_le _, Nat.zero_le _, rfl, rfl, rfl, Nat.zero_le _, HOP.out⟩
  case round =>
    have HRW := HRZ
    have HFW := HFZ
    generalize World.alloc W2 _ = W3 at *
    obtain ⟨i, j, acc, v1, v2, hi, hj, rfl, rfl, hme, hacc, hO⟩ := hrel
    have HME := Lib.hid hme
    have HOO := Lib.hid hO
    rw [HLA.out] at hi
    rw [HLB.out] at hj
    have HFA := Lib.hid (HW3.out.call hO.fr)
    obtain ⟨x0, x1, x2⟩ := (HB1.out.fr HFA.out).three
    obtain ⟨y0, y1, y2⟩ := (HB2.out.fr HFA.out).three
    have zb : b + 3 < wr.heap.size := lt_of_cell hO.c0
    clear hme hO
    by_cases hin : i < n
    · skip
      have hxa : i < P1.length := by rw [HLA.out]; exact hin
      obtain ⟨ga, oa, rfl, _, hcaa⟩ := HA.out (by simp [fsts]; omega)
      obtain ⟨gb, ob, rfl, _, hcba⟩ := HB.out (by simp [snds]; omega)
      have a1 : wr.cell? ⟨ga, oa + i, none⟩ = some (.string P1[i].1) := by
        have := (HF1.out.call HFA.out).get (hcaa i (by simpa [fsts] using hxa))
        simpa [fsts, strv] using this
      have b1 : wr.cell? ⟨gb, ob + i, none⟩ = some (.int .i64 P1[i].2) := by
        have := (HF1.out.call HFA.out).get (hcba i (by simpa [snds] using hxa))
        simpa [snds, intv] using this
      have zla := lt_of_cell a1
      have zma := lt_of_cell b1
      clear hcaa hcba
      have ei : ((i : Int) == (n : Int)) = false := by rw [beq_eq_false_iff_ne]; omega
      go_upto_block 2 with fail
      go_cut [8, 9, 10, 11] from 20 to 138 (fun s8 s9 s10 s11 wx => CutP P1 P2 k i j wr s8 s9 s10 s11 wx)
      case first =>
        by_cases hjm : j < m
        · skip
          have hxb : j < P2.length := by rw [HLB.out]; exact hjm
          obtain ⟨gc, oc, rfl, _, hcab⟩ := HA'.out (by simp [fsts]; omega)
          obtain ⟨gd, od, rfl, _, hcbb⟩ := HB'.out (by simp [snds]; omega)
          have a2 : wr.cell? ⟨gc, oc + j, none⟩ = some (.string P2[j].1) := by
            have := (HF1.out.call HFA.out).get (hcab j (by simpa [fsts] using hxb))
            simpa [fsts, strv] using this
          have b2 : wr.cell? ⟨gd, od + j, none⟩ = some (.int .i64 P2[j].2) := by
            have := (HF1.out.call HFA.out).get (hcbb j (by simpa [snds] using hxb))
            simpa [snds, intv] using this
          have zlb := lt_of_cell a2
          have zmb := lt_of_cell b2
          clear hcab hcbb
          have ej : ((j : Int) == (m : Int)) = false := by rw [beq_eq_false_iff_ne]; omega
          cases hl : ltB P1[i].1 P2[j].1
          · cases hl2 : ltB P2[j].1 P1[i].1
            · have HM := Lib.hid (merge_c (k := k) hxa hxb hl hl2)
              have q1 : Op.bytesLess P1[i].1.toList P2[j].1.toList = false := hl
              have q2 : Op.bytesLess P2[j].1.toList P1[i].1.toList = false := hl2
              unfold add64 mul64 at HM
              generalize P1[i] = e1 at *
              generalize P2[j] = e2 at *
              obtain ⟨s1, t1⟩ := e1
              obtain ⟨s2, t2⟩ := e2
              clear hl hl2
              go_wp2_with fail
              (try (go_quiet (fail)); try go_wp2_with fail)
              (try (go_quiet (fail)); try go_wp2_with fail)
              (try (go_quiet (fail)); try go_wp2_with fail)
              go_meet
              exact ⟨i + 1, j + 1, s1, _, by go_num, by go_num, rfl, rfl, ⟨HM.out, by omega, by omega, by omega, by omega⟩, by first | exact Fr.refl _ | exact Fr.drewN (Fr.refl _) _ | exact Fr.drewN (Fr.drewN (Fr.refl _) _) _ | exact Fr.drewN (Fr.drewN (Fr.drewN (Fr.refl _) _) _) _⟩
            · have HM := Lib.hid (merge_b2 (k := k) hxa hxb hl hl2)
              have q1 : Op.bytesLess P1[i].1.toList P2[j].1.toList = false := hl
              have q2 : Op.bytesLess P2[j].1.toList P1[i].1.toList = true := hl2
              unfold mul64 at HM
              generalize P1[i] = e1 at *
              generalize P2[j] = e2 at *
              obtain ⟨s1, t1⟩ := e1
              obtain ⟨s2, t2⟩ := e2
              clear hl hl2
              go_wp2_with fail
              (try (go_quiet (fail)); try go_wp2_with fail)
              (try (go_quiet (fail)); try go_wp2_with fail)
              (try (go_quiet (fail)); try go_wp2_with fail)
              go_meet
              exact ⟨i, j + 1, s2, _, by go_num, by go_num, rfl, rfl, ⟨HM.out, by omega, by omega, by omega, by omega⟩, by first | exact Fr.refl _ | exact Fr.drewN (Fr.refl _) _ | exact Fr.drewN (Fr.drewN (Fr.refl _) _) _ | exact Fr.drewN (Fr.drewN (Fr.drewN (Fr.refl _) _) _) _⟩
          · have HM := Lib.hid (merge_a2 (k := k) hxa hxb hl)
            have q1 : Op.bytesLess P1[i].1.toList P2[j].1.toList = true := hl
            generalize P1[i] = e1 at *
            generalize P2[j] = e2 at *
            obtain ⟨s1, t1⟩ := e1
            obtain ⟨s2, t2⟩ := e2
            clear hl
            go_wp2_with fail
            (try (go_quiet (fail)); try go_wp2_with fail)
            (try (go_quiet (fail)); try go_wp2_with fail)
            (try (go_quiet (fail)); try go_wp2_with fail)
            go_meet
            exact ⟨i + 1, j, s1, _, by go_num, by go_num, rfl, rfl, ⟨HM.out, by omega, by omega, by omega, by omega⟩, by first | exact Fr.refl _ | exact Fr.drewN (Fr.refl _) _ | exact Fr.drewN (Fr.drewN (Fr.refl _) _) _ | exact Fr.drewN (Fr.drewN (Fr.drewN (Fr.refl _) _) _) _⟩
        · obtain rfl : j = m := by omega
          have hjl : j ≤ P2.length := by rw [HLB.out]; omega
          have HM := Lib.hid (merge_a1 (k := k) (P2 := P2) (j := j) hxa (by rw [HLB.out]; omega))
          generalize P1[i] = e1 at *
          obtain ⟨s1, t1⟩ := e1
          go_wp2_with fail
          (try (go_quiet (fail)); try go_wp2_with fail)
          (try (go_quiet (fail)); try go_wp2_with fail)
          (try (go_quiet (fail)); try go_wp2_with fail)
          go_meet
          exact ⟨i + 1, j, s1, _, by go_num, by go_num, rfl, rfl, ⟨HM.out, by omega, by omega, by omega, by omega⟩, by first | exact Fr.refl _ | exact Fr.drewN (Fr.refl _) _ | exact Fr.drewN (Fr.drewN (Fr.refl _) _) _ | exact Fr.drewN (Fr.drewN (Fr.drewN (Fr.refl _) _) _) _⟩
      case rest =>
        obtain ⟨i2, j2, s, nv, rfl, rfl, rfl, rfl, hstep, hfc⟩ := hcut
        have HFC := Lib.hid hfc
        have HST := Lib.hid hstep
        have hi2 : i2 ≤ n := by have := hstep.hi; rw [HLA.out] at this; omega
        have hj2 : j2 ≤ m := by have := hstep.hj; rw [HLB.out] at this; omega
        have hmore := hstep.more
        have HOC := Lib.hid (HOO.out.call hfc)
        have c0 := HOC.out.c0
        have c1 := HOC.out.c1
        have c2 := HOC.out.c2
        have f0 := HOC.out.f0
        have f1 := HOC.out.f1
        have zc := lt_of_cell c0
        clear hstep hfc
        by_cases hnv : nv = 0
        · subst hnv
          go_wp2_with fail
          go_roundw
          case rel => exact ⟨i2, j2, acc, v1, v2, HST.out.hi, HST.out.hj, rfl, rfl, by rw [HME.out, HST.out.eq]; rfl, by omega, HOC.out⟩
          case measure => simp [intOf]; omega
        · have hnb : (nv == 0) = false := by simp [hnv]
          have hnc : (nv != 0) = true := by simp [hnv]
          obtain ⟨A3, c3, rfl, _, _, _⟩ := HOC.out.o1.val
          obtain ⟨A7, c7, rfl, _, _, _⟩ := HOC.out.o2.val
          have LN := Lib.hid (show (fsts acc).length = acc.length by simp [fsts])
          have LM := Lib.hid (show (snds acc).length = acc.length by simp [snds])
          go_wp2_with (first
            | (at_builtin; refine wpList_append_rd (f := strv) (fun _ => rfl) _ rfl (.tmp 128) (.tmp 130) 22 rfl (b + 3 + 1) 9 Tryz.underlying22 Tryz.infoStr rfl (.slice A3 (fsts acc).length c3) (fsts acc) rfl (HOC.out.o1.alloc _) (some ⟨wc.heap.size, 0, none⟩) 1 1 [s] rfl rfl (rd_one _ _ _) (Nat.le_trans (show (fsts acc).length + 1 ≤ 2001 by have := LN.out; omega) (by decide)) (by have := LN.out; omega) (by simp; omega) ?_; intro v1' w1 hg1; obtain ⟨A4, c4, hv1, _, _, _⟩ := hg1.out.own.val; obtain ⟨q1, hq1⟩ : ∃ q, (fsts acc ++ [s]).length = q := ⟨_, rfl⟩; rw [hq1] at hv1; subst hv1; clear hq1; obtain ⟨d0, d1, d2, e0, e1, zw⟩ := HOC.out.push1 hg1.out; have HP1 := Lib.hid (HOC.out.done1 hg1.out); clear hg1)
            | (at_builtin; refine wpList_append_rd (f := intv) (fun _ => rfl) _ rfl (.tmp 134) (.tmp 136) 23 rfl (b + 3 + 1) 3 Tryz.underlying23 Tryz.infoInt rfl (.slice A7 (snds acc).length c7) (snds acc) rfl (HP1.out.o2.alloc _) (some ⟨w1.heap.size, 0, none⟩) 1 1 [nv] rfl rfl (rd_one' _ _ _ (by simp)) (Nat.le_trans (show (snds acc).length + 1 ≤ 2001 by have := LM.out; omega) (by decide)) (by have := LM.out; omega) (by simp; omega) ?_; intro v2' w2 hg2; obtain ⟨A8, c8, hv2, _, _, _⟩ := hg2.out.own.val; obtain ⟨q2, hq2⟩ : ∃ q, (snds acc ++ [nv]).length = q := ⟨_, rfl⟩; rw [hq2] at hv2; subst hv2; clear hq2; obtain ⟨d0, d1, d2, e0, e1, zw2⟩ := HP1.out.push2 hg2.out; have HP2 := Lib.hid (HP1.out.done2 hg2.out); clear hg2))
          go_roundw
          case rel => exact ⟨i2, j2, acc ++ [(s, nv)], _, _, HST.out.hi, HST.out.hj, rfl, rfl, by rw [HME.out, HST.out.eq]; simp [pushP, hnv], by simp; omega, HP2.out⟩
          case measure => simp [intOf]; omega
    · by_cases hjm : j < m
      · skip
        have hxb : j < P2.length := by rw [HLB.out]; exact hjm
        obtain ⟨gc, oc, rfl, _, hcab⟩ := HA'.out (by simp [fsts]; omega)
        obtain ⟨gd, od, rfl, _, hcbb⟩ := HB'.out (by simp [snds]; omega)
        have a2 : wr.cell? ⟨gc, oc + j, none⟩ = some (.string P2[j].1) := by
          have := (HF1.out.call HFA.out).get (hcab j (by simpa [fsts] using hxb))
          simpa [fsts, strv] using this
        have b2 : wr.cell? ⟨gd, od + j, none⟩ = some (.int .i64 P2[j].2) := by
          have := (HF1.out.call HFA.out).get (hcbb j (by simpa [snds] using hxb))
          simpa [snds, intv] using this
        have zlb := lt_of_cell a2
        have zmb := lt_of_cell b2
        clear hcab hcbb
        obtain rfl : i = n := by omega
        go_upto_block 2 with fail
        go_cut [8, 9, 10, 11] from 20 to 138 (fun s8 s9 s10 s11 wx => CutP P1 P2 k i j wr s8 s9 s10 s11 wx)
        case first =>
          have ej : ((j : Int) == (m : Int)) = false := by rw [beq_eq_false_iff_ne]; omega
          have hil : i ≤ P1.length := by rw [HLA.out]; omega
          have HM := Lib.hid (merge_b1 (k := k) (P1 := P1) (i := i) (by rw [HLA.out]; omega) hxb)
          unfold mul64 at HM
          generalize P2[j] = e2 at *
          obtain ⟨s2, t2⟩ := e2
          go_wp2_with fail
          (try (go_quiet (fail)); try go_wp2_with fail)
          (try (go_quiet (fail)); try go_wp2_with fail)
          (try (go_quiet (fail)); try go_wp2_with fail)
          go_meet
          exact ⟨i, j + 1, s2, _, by go_num, by go_num, rfl, rfl, ⟨HM.out, by omega, by omega, by omega, by omega⟩, by first | exact Fr.refl _ | exact Fr.drewN (Fr.refl _) _ | exact Fr.drewN (Fr.drewN (Fr.refl _) _) _ | exact Fr.drewN (Fr.drewN (Fr.drewN (Fr.refl _) _) _) _⟩
        case rest =>
          obtain ⟨i2, j2, s, nv, rfl, rfl, rfl, rfl, hstep, hfc⟩ := hcut
          have HFC := Lib.hid hfc
          have HST := Lib.hid hstep
          have hi2 : i2 ≤ i := by have := hstep.hi; rw [HLA.out] at this; omega
          have hj2 : j2 ≤ m := by have := hstep.hj; rw [HLB.out] at this; omega
          have hmore := hstep.more
          have HOC := Lib.hid (HOO.out.call hfc)
          have c0 := HOC.out.c0
          have c1 := HOC.out.c1
          have c2 := HOC.out.c2
          have f0 := HOC.out.f0
          have f1 := HOC.out.f1
          have zc := lt_of_cell c0
          clear hstep hfc
          by_cases hnv : nv = 0
          · subst hnv
            go_wp2_with fail
            go_roundw
            case rel => exact ⟨i2, j2, acc, v1, v2, HST.out.hi, HST.out.hj, rfl, rfl, by rw [HME.out, HST.out.eq]; rfl, by omega, HOC.out⟩
            case measure => simp [intOf]; omega
          · have hnb : (nv == 0) = false := by simp [hnv]
            have hnc : (nv != 0) = true := by simp [hnv]
            obtain ⟨A3, c3, rfl, _, _, _⟩ := HOC.out.o1.val
            obtain ⟨A7, c7, rfl, _, _, _⟩ := HOC.out.o2.val
            have LN := Lib.hid (show (fsts acc).length = acc.length by simp [fsts])
            have LM := Lib.hid (show (snds acc).length = acc.length by simp [snds])
            go_wp2_with (first
              | (at_builtin; refine wpList_append_rd (f := strv) (fun _ => rfl) _ rfl (.tmp 128) (.tmp 130) 22 rfl (b + 3 + 1) 9 Tryz.underlying22 Tryz.infoStr rfl (.slice A3 (fsts acc).length c3) (fsts acc) rfl (HOC.out.o1.alloc _) (some ⟨wc.heap.size, 0, none⟩) 1 1 [s] rfl rfl (rd_one _ _ _) (Nat.le_trans (show (fsts acc).length + 1 ≤ 2001 by have := LN.out; omega) (by decide)) (by have := LN.out; omega) (by simp; omega) ?_; intro v1' w1 hg1; obtain ⟨A4, c4, hv1, _, _, _⟩ := hg1.out.own.val; obtain ⟨q1, hq1⟩ : ∃ q, (fsts acc ++ [s]).length = q := ⟨_, rfl⟩; rw [hq1] at hv1; subst hv1; clear hq1; obtain ⟨d0, d1, d2, e0, e1, zw⟩ := HOC.out.push1 hg1.out; have HP1 := Lib.hid (HOC.out.done1 hg1.out); clear hg1)
              | (at_builtin; refine wpList_append_rd (f := intv) (fun _ => rfl) _ rfl (.tmp 134) (.tmp 136) 23 rfl (b + 3 + 1) 3 Tryz.underlying23 Tryz.infoInt rfl (.slice A7 (snds acc).length c7) (snds acc) rfl (HP1.out.o2.alloc _) (some ⟨w1.heap.size, 0, none⟩) 1 1 [nv] rfl rfl (rd_one' _ _ _ (by simp)) (Nat.le_trans (show (snds acc).length + 1 ≤ 2001 by have := LM.out; omega) (by decide)) (by have := LM.out; omega) (by simp; omega) ?_; intro v2' w2 hg2; obtain ⟨A8, c8, hv2, _, _, _⟩ := hg2.out.own.val; obtain ⟨q2, hq2⟩ : ∃ q, (snds acc ++ [nv]).length = q := ⟨_, rfl⟩; rw [hq2] at hv2; subst hv2; clear hq2; obtain ⟨d0, d1, d2, e0, e1, zw2⟩ := HP1.out.push2 hg2.out; have HP2 := Lib.hid (HP1.out.done2 hg2.out); clear hg2))
            go_roundw
            case rel => exact ⟨i2, j2, acc ++ [(s, nv)], _, _, HST.out.hi, HST.out.hj, rfl, rfl, by rw [HME.out, HST.out.eq]; simp [pushP, hnv], by simp; omega, HP2.out⟩
            case measure => simp [intOf]; omega
      · obtain rfl : i = n := by omega
        obtain rfl : j = m := by omega
        have c0 := HOO.out.c0
        have c1 := HOO.out.c1
        have c2 := HOO.out.c2
        have z0 := HOO.out.fr.get (HRW.out 0 _ rfl)
        have z1 := HOO.out.fr.get (HRW.out 1 _ rfl)
        have z2 := HOO.out.fr.get (HRW.out 2 _ rfl)
        have f0 := HOO.out.fr.free (HRW.out 0 _ rfl) (HFW.out 0)
        have f1 := HOO.out.fr.free (HRW.out 1 _ rfl) (HFW.out 1)
        have f2 := HOO.out.fr.free (HRW.out 2 _ rfl) (HFW.out 2)
        obtain ⟨A3, c3, rfl, _, _, _⟩ := HOO.out.o1.val
        obtain ⟨A7, c7, rfl, _, _, _⟩ := HOO.out.o2.val
        obtain ⟨w5, hw5, hl5, hr5, hf5⟩ := lin_end (off := off) (show w.heap.size ≤ b + 2 by rw [HN.out]; omega) (HF1.out.call HFA.out) (show b + 2 < b + 3 + 1 by omega) HOO.out.o1 HOO.out.o2 z0 z1 z2
        go_wp2_with fail
        rw [← hw5]
        clear hw5 z0 z1 z2 f0 f1 f2 c0 c1 c2
        go_wp2
        refine bodyPost_ret (v := .agg #[.slice A3 (fsts acc).length c3, .slice A7 (snds acc).length c7, .int .i64 off]) (results_cell Tryz.results12 _ rfl hl5) rfl ⟨_, rfl, ?_, hf5⟩
        have he := HME.out
        rw [merge_end (by rw [HLA.out]; omega) (by rw [HLB.out]; omega), List.append_nil] at he
        rw [he]
        exact hr5
end Go.Proofs.YtbnaakognnkhdaaGreatDoor
