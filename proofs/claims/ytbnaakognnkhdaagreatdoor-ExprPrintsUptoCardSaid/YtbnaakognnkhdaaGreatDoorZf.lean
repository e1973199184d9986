/- Sums as the program reckons with them: a sum times a number, a sum and a sum, in whatever order the map gives its symbols. -/
import Derived.Test.YtbnaakognnkhdaaGreatDoorZe
namespace Go.Proofs.YtbnaakognnkhdaaGreatDoor
open Go.RowKit
set_option linter.unusedSimpArgs false
set_option linter.unusedVariables false

/-- What is no longer to come. -/
def Lf (m : List (ByteArray × Int)) (left : Lit → Bool) : List (ByteArray × Int) := m.filter fun x => !left (Kl x.1)
theorem Lf_asc {m : List (ByteArray × Int)} (h : ascP m) (left : Lit → Bool) : ascP (Lf m left) := asc_filter (fun s => !left (Kl s)) h
theorem Lf_look (m : List (ByteArray × Int)) (left : Lit → Bool) (t : ByteArray) : look (Lf m left) t = if left (Kl t) = true then 0 else look m t := by
  unfold Lf
  rw [look_filter (fun s => !left (Kl s))]
  cases left (Kl t) <;> simp
theorem Lf_end {m : List (ByteArray × Int)} {left : Lit → Bool} (h : ∀ kl, left kl = false) : Lf m left = m := by
  unfold Lf
  exact List.filter_eq_self.2 fun x _ => by simp [h]
theorem Lf_start {m : List (ByteArray × Int)} (h : ascP m) : Lf m (Go.Maps.has (dP m)) = [] := by
  unfold Lf
  refine List.filter_eq_nil_iff.2 fun x hx => ?_
  have h1 : look m x.1 = x.2 := look_mem h x hx
  have h2 : x.2 ≠ 0 := own_eq.asc_ne h x hx
  rw [has_dP x.1 h, h1]
  simp [h2]
theorem Lf_len (m : List (ByteArray × Int)) (left : Lit → Bool) : (Lf m left).length ≤ m.length := List.length_filter_le _ _
theorem merge_nil {k : Int} {l : List (ByteArray × Int)} (h : ascP l) (hi : ∀ x ∈ l, I64 x.2) : mergeP k l [] = l :=
  asc_ext (merge_asc _ _ _ (Nat.le_refl _) h trivial) h fun s => by
    rw [look_merge _ l [] (Nat.le_refl _) h trivial hi s]
    simp only [look]
    rw [mul_zero64, add_zero64 (look_i64 hi s)]
theorem strs_inv (key : Value) (kl : Lit) (h : keyOf Tryz.prog 9 key = some kl) : ∃ x, key = Value.string x := by
  obtain ⟨s, h1, _⟩ := Go.WideMaps.string_of_keyOf Tryz.underlying9 h
  exact ⟨s, h1⟩
theorem ints_inv (v : Value) (y : DataW Unit × List MemPlace) (h : plainElem (H := Unit) Tryz.prog 3 v = some y) : ∃ c, v = Value.int .i64 c := by
  obtain ⟨c, h1, _⟩ := plainElem_int_inv Tryz.underlying3 h
  exact ⟨c, h1⟩
theorem ranges_keep {P : Program} {k : TypeId} {R : Value → Option (DataW Unit × List MemPlace)} {w w' : World} {b r n : Nat} {D : DataW Unit} {left : Lit → Bool} {cnt : Nat} (h : w.ranges P k R b r n D left cnt) (hb : w'.heap[b]? = w.heap[b]?) (hr : w'.heap[r]? = w.heap[r]?) : w'.ranges P k R b r n D left cnt := by
  obtain ⟨es, clock, since, seen, c0, h1, F, hs, hD, h2, rest⟩ := h
  exact ⟨es, clock, since, seen, c0, hb.trans h1, F, hs, hD, hr.trans h2, rest⟩
theorem ranges_no_map {P P' : Program} {k k' : TypeId} {R R' : Value → Option (DataW Unit × List MemPlace)} {w : World} {b r n n' : Nat} {D D' : DataW Unit} {left : Lit → Bool} {cnt : Nat} (h : w.ranges P k R b r n D left cnt) (g : w.ownsMap P' k' R' r n' D') : False := by
  obtain ⟨es, clock, since, seen, c0, h1, F, hs, hD, h2, rest⟩ := h
  obtain ⟨es', clock', hb, _⟩ := g
  rw [h2] at hb; cases hb
theorem ranges_no_cell {P : Program} {k : TypeId} {R : Value → Option (DataW Unit × List MemPlace)} {w : World} {b r n o : Nat} {D : DataW Unit} {left : Lit → Bool} {cnt : Nat} {v : Value} (h : w.ranges P k R b r n D left cnt) (g : w.cell? ⟨r, o, none⟩ = some v) : False := by
  obtain ⟨es, clock, since, seen, c0, h1, F, hs, hD, h2, rest⟩ := h
  simp [World.cell?, h2] at g
/-- One symbol more has come. -/
theorem merge_step {k : Int} {P1 m : List (ByteArray × Int)} {left : Lit → Bool} {x : ByteArray} {c : Int} {kl : Lit} {y : DataW Unit × List MemPlace} (h1 : ascP P1) (i1 : ∀ x ∈ P1, I64 x.2) (hm : ascP m)
    (hkey : keyOf Tryz.prog 9 (.string x) = some kl) (hl : left kl = true) (hR : plainElem (H := Unit) Tryz.prog 3 (.int .i64 c) = some y) (hat : ∀ zd, (dP m).atKey kl zd = y.1) :
    x.size ≤ maxLen ∧ ∀ t, look (mergeP k P1 (Lf m fun z => left z && !z.sameKey kl)) t = if x = t then add64 (look (mergeP k P1 (Lf m left)) x) (mul64 k c) else look (mergeP k P1 (Lf m left)) t := by
  obtain ⟨s, e1, e2, e3⟩ := Go.WideMaps.string_of_keyOf Tryz.underlying9 hkey
  obtain rfl : x = s := by injection e1
  obtain rfl : kl = Kl x := e2
  obtain ⟨c', e4, e5, _⟩ := plainElem_int_inv Tryz.underlying3 hR
  obtain rfl : c = c' := by injection e4
  have e6 : look m x = c := by
    have a1 := hat (.lit (.int .i64 (c + 1)))
    rw [at_dP x _ hm, e5] at a1
    split at a1
    · simp only [DataW.lit.injEq, Lit.int.injEq, true_and] at a1; omega
    · simp only [nD, DataW.lit.injEq, Lit.int.injEq, true_and] at a1; exact a1
  refine ⟨e3, fun t => ?_⟩
  rw [look_merge _ _ _ (Nat.le_refl _) h1 (Lf_asc hm _) i1 t, look_merge _ _ _ (Nat.le_refl _) h1 (Lf_asc hm _) i1 x, look_merge _ _ _ (Nat.le_refl _) h1 (Lf_asc hm _) i1 t, Lf_look, Lf_look, Lf_look]
  have e7 : (Kl t).sameKey (Kl x) = decide (t = x) := Kl_same t x
  by_cases e : x = t
  · subst e
    rw [if_pos rfl, e7]
    simp only [hl, decide_true, Bool.not_true, Bool.and_false, Bool.false_eq_true, if_false, if_true]
    rw [e6, mul_zero64, add_zero64 (look_i64 i1 x)]
  · have e8 : ¬ t = x := fun h => e h.symm
    rw [if_neg e, e7]
    simp only [e8, decide_false, Bool.not_false, Bool.and_true]
theorem SAt.grown {S : Nat → Prop} {W wr w' : World} {q r b n : Nat} {mb : Option Nat} {P : List (ByteArray × Int)} {off : Int} {D : DataW Unit} {left : Lit → Bool} {cnt : Nat} (h : SAt S W q mb P off wr) (hrg : wr.ranges Tryz.prog 9 (plainElem (H := Unit) Tryz.prog 3) b r n D left cnt)
    (hg : wr.grownBy w' (some r)) (hr : S r) : SAt S W q mb P off w' := by
  have hq : q ≠ r := fun e => ranges_no_cell hrg (e ▸ h.c0)
  have hk := hg.block q (lt_of_cell h.c0) (fun e => hq (by injection e))
  refine ⟨h.map.keep fun b' e => ?_, (heap_cell hk).trans h.c0, (heap_cell hk).trans h.c1, (heap_frozen hk).trans h.f0, (heap_frozen hk).trans h.f1, h.new, h.own, h.kp.grown hg fun j e => .inl (by injection e with e; subst e; exact hr)⟩
  have hm := h.map
  subst e
  refine hg.block b' hm.lt fun e => ?_
  injection e with e
  subst e
  exact ranges_no_map hrg hm
/-- A round of a loop over a map's symbols, each counted into another sum. -/
theorem cnt_step {S : Nat → Prop} {W wr w1 : World} {q r b n cnt cnt1 : Nat} {mb : Option Nat} {P1 m : List (ByteArray × Int)} {off k c v : Int} {left : Lit → Bool} {x : ByteArray} {kl : Lit} {y : DataW Unit × List MemPlace} (h1 : ascP P1) (i1 : ∀ x ∈ P1, x.1.size ≤ 140737488351232 ∧ I64 x.2) (hm : ascP m) (im : ∀ x ∈ m, x.1.size ≤ 140737488351232 ∧ I64 x.2) (hlen : P1.length + m.length ≤ 1000000)
    (hrg : wr.ranges Tryz.prog 9 (plainElem (H := Unit) Tryz.prog 3) b r n (dP m) left cnt) (hs : SAt S W q mb (mergeP k P1 (Lf m left)) off wr) (hg : wr.grownBy w1 (some r))
    (hrg1 : w1.ranges Tryz.prog 9 (plainElem (H := Unit) Tryz.prog 3) b r n (dP m) (fun z => left z && !z.sameKey kl) cnt1) (hSr : S r) (hSb : ¬ S b) (hbW : b < W.heap.size)
    (hkey : keyOf Tryz.prog 9 (.string x) = some kl) (hl : left kl = true) (hR : plainElem (H := Unit) Tryz.prog 3 (.int .i64 c) = some y) (hat : ∀ zd, (dP m).atKey kl zd = y.1) (hv : v = mul64 k c) :
    Calls Tryz.prog 31 #[.pointer (some ⟨q, 0, none⟩), .string x, .int .i64 v] w1 fun e w' => (∃ u, e = .returned u) ∧ ∃ mb', SAt S W q mb' (mergeP k P1 (Lf m fun z => left z && !z.sameKey kl)) off w' ∧
      w'.ranges Tryz.prog 9 (plainElem (H := Unit) Tryz.prog 3) b r n (dP m) (fun z => left z && !z.sameKey kl) cnt1 := by
  subst hv
  have hs1 := hs.grown hrg hg hSr
  obtain ⟨hx, hq⟩ := merge_step (k := k) h1 (fun x hx => (i1 x hx).2) hm hkey hl hR hat
  have hl1 := (merge_sm (k := k) _ P1 (Lf m left) (Nat.le_refl _) i1 (fun x hx => im x (List.mem_filter.1 hx).1)).1
  have hl2 := Lf_len m left
  refine (count_any _ _ x _ q mb w1 (merge_asc _ _ _ (Nat.le_refl _) h1 (Lf_asc hm _)) (merge_asc _ _ _ (Nat.le_refl _) h1 (Lf_asc hm _)) (by omega) hx hq hs1.c0 hs1.f0 hs1.map).mono fun e w' ⟨e1, mb', hk⟩ => ⟨e1, mb', hs1.count hk, ranges_keep hrg1 ?_ ?_⟩
  · refine hk.kp.block b hrg1.owns.lt fun hh => ?_
    rcases hh with rfl | hh
    · rcases hs1.own with h | h
      · exact hSb h
      · omega
    · rcases hs1.new b hh with h | h
      · exact hSb h
      · omega
  · refine hk.kp.block r hrg1.lt fun hh => ?_
    rcases hh with rfl | hh
    · exact ranges_no_cell hrg1 hs1.c0
    · have hm' := hs1.map
      subst hh
      exact ranges_no_map hrg1 hm'
end Go.Proofs.YtbnaakognnkhdaaGreatDoor
