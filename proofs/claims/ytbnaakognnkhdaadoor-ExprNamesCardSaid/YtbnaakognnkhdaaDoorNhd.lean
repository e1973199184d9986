/- What the program's calls of layer 12 answer, as contracts; sums that came in. -/
import Derived.Test.YtbnaakognnkhdaaDoorNfd
import Derived.Test.YtbnaakognnkhdaaDoorNgd
namespace Go.Proofs.YtbnaakognnkhdaaDoor
open Go.RowKit
set_option linter.unusedSimpArgs false
set_option linter.unusedVariables false

/-- A sum: its symbols, how many times they count, the number. -/
structure Ln where
  ss : List ByteArray
  ts : List Int
  off : Int
def Ln.Sm (a : Ln) : Prop := SmS a.ss ∧ SmT a.ts ∧ I64 a.off
/-- Its symbols with how many times they count. -/
def Ln.P (a : Ln) : List (ByteArray × Int) := a.ss.zip a.ts
def ofP (P : List (ByteArray × Int)) (off : Int) : Ln := ⟨fsts P, snds P, off⟩
/-- The value v is the sum a, its rows in blocks of F. -/
def Ln.At (a : Ln) (F : Nat → Prop) (w : World) (v : Value) : Prop := LnF F w v a.ss a.ts a.off
theorem Ln.At.fr {a : Ln} {F : Nat → Prop} {w w' : World} {v : Value} (h : a.At F w v) (k : Fr w w') : a.At F w' v := LnF.fr h k
theorem Ln.At.mono {a : Ln} {F G : Nat → Prop} {w : World} {v : Value} (h : a.At F w v) (k : ∀ g, F g → G g) : a.At G w v := LnF.mono h k
theorem Ln.At.keep {a : Ln} {F : Nat → Prop} {w w' : World} {v : Value} (h : a.At F w v) (k : ∀ g, F g → w'.heap[g]? = w.heap[g]?) : a.At F w' v := LnF.keep h k
def AliveC : Prop := ∀ w : World, Calls Tryd.prog 4 #[] w fun e w' => e = .returned (.bool true) ∧ Fr w w'
/-- F and what is new. -/
def Also (F : Nat → Prop) (w w' : World) (g : Nat) : Prop := F g ∨ New w w' g
def eqL (a b : Ln) : Bool := smB a.ss b.ss a.ts b.ts a.off b.off
theorem eqL_refl (a : Ln) : eqL a a = true := smB_refl _ _ _
theorem same_at {a b : Ln} {F G : Nat → Prop} {w : World} {u v : Value} (hs : a.Sm) (ht : b.Sm) (h : a.At F w u) (k : b.At G w v) : Calls Tryd.prog 6 #[u, v] w fun e w' => e = .returned (.bool (eqL a b)) ∧ Fr w w' := by
  obtain ⟨A, B, c, d, rfl, h1, h2, _⟩ := h
  obtain ⟨A', B', c', d', rfl, k1, k2, _⟩ := k
  exact samel_any a.ss b.ss a.ts b.ts a.off b.off A B A' B' c d c' d' _ _ _ _ w rfl rfl rfl rfl hs.1 hs.2.1 ht.1 ht.2.1 h1 h2 k1 k2
theorem wrap64_i64 (n : Int) : I64 (wrap64 n) := by unfold wrap64 I64; omega
theorem merge_sm {k : Int} : ∀ (N : Nat) (l m : List (ByteArray × Int)), l.length + m.length ≤ N → (∀ x ∈ l, x.1.size ≤ 140737488351232 ∧ I64 x.2) → (∀ x ∈ m, x.1.size ≤ 140737488351232 ∧ I64 x.2) → (mergeP k l m).length ≤ l.length + m.length ∧ ∀ x ∈ mergeP k l m, x.1.size ≤ 140737488351232 ∧ I64 x.2 := by
  have push : ∀ (s : ByteArray) (n : Int) (l : List (ByteArray × Int)) (q : Nat), s.size ≤ 140737488351232 → I64 n → l.length ≤ q → (∀ x ∈ l, x.1.size ≤ 140737488351232 ∧ I64 x.2) → (pushP s n l).length ≤ q + 1 ∧ ∀ x ∈ pushP s n l, x.1.size ≤ 140737488351232 ∧ I64 x.2 := by
    intro s n l q h1 h2 h3 h4
    unfold pushP
    split
    · exact ⟨by omega, h4⟩
    · refine ⟨by simp; omega, fun x hx => ?_⟩
      rcases List.mem_cons.1 hx with rfl | hx
      · exact ⟨h1, h2⟩
      · exact h4 x hx
  intro N
  induction N with
  | zero =>
    intro l m h _ _
    have e1 : l = [] := List.eq_nil_of_length_eq_zero (by omega)
    have e2 : m = [] := List.eq_nil_of_length_eq_zero (by omega)
    subst e1 e2
    rw [mergeP]
    exact ⟨by simp, fun x h => by cases h⟩
  | succ N ih =>
    intro l m h hl hm
    match l, m with
    | [], [] => rw [mergeP]; exact ⟨by simp, fun x h => by cases h⟩
    | x :: r, [] =>
      rw [mergeP]
      have h1 := hl x List.mem_cons_self
      have h2 := ih r [] (by simp at h ⊢; omega) (fun y hy => hl y (List.mem_cons_of_mem _ hy)) hm
      have := push x.1 x.2 _ _ h1.1 h1.2 h2.1 h2.2
      exact ⟨by have := this.1; simp at this ⊢; omega, this.2⟩
    | [], y :: s =>
      rw [mergeP]
      have h1 := hm y List.mem_cons_self
      have h2 := ih [] s (by simp at h ⊢; omega) hl (fun z hz => hm z (List.mem_cons_of_mem _ hz))
      have := push y.1 (mul64 k y.2) _ _ h1.1 (wrap64_i64 _) h2.1 h2.2
      exact ⟨by have := this.1; simp at this ⊢; omega, this.2⟩
    | x :: r, y :: s =>
      rw [mergeP]
      have hx := hl x List.mem_cons_self
      have hy := hm y List.mem_cons_self
      have hr : ∀ z ∈ r, z.1.size ≤ 140737488351232 ∧ I64 z.2 := fun z hz => hl z (List.mem_cons_of_mem _ hz)
      have hs : ∀ z ∈ s, z.1.size ≤ 140737488351232 ∧ I64 z.2 := fun z hz => hm z (List.mem_cons_of_mem _ hz)
      split
      · have h2 := ih r (y :: s) (by simp at h ⊢; omega) hr hm
        have := push x.1 x.2 _ _ hx.1 hx.2 h2.1 h2.2
        exact ⟨by have := this.1; simp at this ⊢; omega, this.2⟩
      · split
        · have h2 := ih (x :: r) s (by simp at h ⊢; omega) hl hs
          have := push y.1 (mul64 k y.2) _ _ hy.1 (wrap64_i64 _) h2.1 h2.2
          exact ⟨by have := this.1; simp at this ⊢; omega, this.2⟩
        · have h2 := ih r s (by simp at h ⊢; omega) hr hs
          have := push x.1 (add64 x.2 (mul64 k y.2)) _ _ hx.1 (wrap64_i64 _) h2.1 h2.2
          exact ⟨by have := this.1; simp at this ⊢; omega, this.2⟩
/-- A block holds a sum: its cells, its rows in blocks of F. -/
def BoxF (w : World) (q : Nat) (F : Nat → Prop) (a : Ln) : Prop := ∃ A B c d, BlkC w q [.slice A a.ss.length c, .slice B a.ts.length d, .int .i64 a.off] ∧ a.At F w (.agg #[.slice A a.ss.length c, .slice B a.ts.length d, .int .i64 a.off])
theorem BoxF.fr {w w' : World} {q : Nat} {F : Nat → Prop} {a : Ln} (h : BoxF w q F a) (k : Fr w w') : BoxF w' q F a := by
  obtain ⟨A, B, c, d, h1, h2⟩ := h
  exact ⟨A, B, c, d, h1.fr k, h2.fr k⟩
theorem BoxF.mono {w : World} {q : Nat} {F G : Nat → Prop} {a : Ln} (h : BoxF w q F a) (k : ∀ g, F g → G g) : BoxF w q G a := by
  obtain ⟨A, B, c, d, h1, h2⟩ := h
  exact ⟨A, B, c, d, h1, h2.mono k⟩
/-- The sums that a law's variables hold: boxes apart from one another and from all rows. -/
structure Bxs (w0 wx : World) (F : Nat → Prop) (L : List (Nat × Ln)) : Prop where
  fr : Fr w0 wx
  box : ∀ x ∈ L, BoxF wx x.1 F x.2
  lo : ∀ x ∈ L, w0.heap.size ≤ x.1 ∧ x.1 < wx.heap.size
  far : ∀ x ∈ L, ¬ F x.1
  inF : ∀ g, F g → g < wx.heap.size
theorem Bxs.call {w0 wx w' : World} {F : Nat → Prop} {L : List (Nat × Ln)} (h : Bxs w0 wx F L) (k : Fr wx w') : Bxs w0 w' F L :=
  ⟨h.fr.call k, fun x hx => (h.box x hx).fr k, fun x hx => ⟨(h.lo x hx).1, Nat.lt_of_lt_of_le (h.lo x hx).2 k.size⟩, h.far, fun g hg => Nat.lt_of_lt_of_le (h.inF g hg) k.size⟩
/-- A new box for a sum. -/
theorem Bxs.add {w0 wx : World} {F : Nat → Prop} {L : List (Nat × Ln)} {a : Ln} {A B : Option Addr} {c d : Nat} {t : TypeId} (h : Bxs w0 wx F L) (ha : a.At F wx (.agg #[.slice A a.ss.length c, .slice B a.ts.length d, .int .i64 a.off])) :
    Bxs w0 (wx.alloc (.cells #[.slice A a.ss.length c, .slice B a.ts.length d, .int .i64 a.off] t)) F ((wx.heap.size, a) :: L) := by
  have k := (Fr.refl wx).alloc (.cells #[.slice A a.ss.length c, .slice B a.ts.length d, .int .i64 a.off] t)
  have h' := h.call k
  have hz := h.fr.size
  refine ⟨h'.fr, fun x hx => ?_, fun x hx => ?_, fun x hx => ?_, h'.inF⟩
  · rcases List.mem_cons.1 hx with rfl | hx
    · exact ⟨A, B, c, d, BlkC.alloc, ha.fr k⟩
    · exact h'.box x hx
  · rcases List.mem_cons.1 hx with rfl | hx
    · exact ⟨hz, by simp⟩
    · exact h'.lo x hx
  · rcases List.mem_cons.1 hx with rfl | hx
    · exact fun hF => by have := h.inF _ hF; omega
    · exact h'.far x hx
theorem set3_heap (w : World) (q : Nat) (x y z : Value) (g : Nat) (hg : g ≠ q) : (((w.setCell ⟨q, 0, none⟩ x).setCell ⟨q, 1, none⟩ y).setCell ⟨q, 2, none⟩ z).heap[g]? = w.heap[g]? := by
  rw [Below.heap_setCell _ ⟨q, 2, none⟩ z g hg, Below.heap_setCell _ ⟨q, 1, none⟩ y g hg, Below.heap_setCell _ ⟨q, 0, none⟩ x g hg]
/-- A sum is put into a box that was made before. -/
theorem Bxs.put {w0 wx : World} {F : Nat → Prop} {L : List (Nat × Ln)} {a : Ln} {A B : Option Addr} {c d q : Nat} {x y z : Value} (h : Bxs w0 wx F L) (ha : a.At F wx (.agg #[.slice A a.ss.length c, .slice B a.ts.length d, .int .i64 a.off]))
    (hq : w0.heap.size ≤ q) (hz : BlkC wx q [x, y, z]) (hF : ¬ F q) (hL : ∀ x ∈ L, x.1 ≠ q) :
    Bxs w0 (((wx.setCell ⟨q, 0, none⟩ (.slice A a.ss.length c)).setCell ⟨q, 1, none⟩ (.slice B a.ts.length d)).setCell ⟨q, 2, none⟩ (.int .i64 a.off)) F ((q, a) :: L) := by
  obtain ⟨z0, z1, z2⟩ := hz.three
  have zq := lt_of_cell z0
  have hh := set3_heap wx q (.slice A a.ss.length c) (.slice B a.ts.length d) (.int .i64 a.off)
  have hsz : (((wx.setCell ⟨q, 0, none⟩ (.slice A a.ss.length c)).setCell ⟨q, 1, none⟩ (.slice B a.ts.length d)).setCell ⟨q, 2, none⟩ (.int .i64 a.off)).heap.size = wx.heap.size := by simp
  have hfr : Fr w0 (((wx.setCell ⟨q, 0, none⟩ (.slice A a.ss.length c)).setCell ⟨q, 1, none⟩ (.slice B a.ts.length d)).setCell ⟨q, 2, none⟩ (.int .i64 a.off)) := ((h.fr.set (p := ⟨q, 0, none⟩) hq _).set (p := ⟨q, 1, none⟩) hq _).set (p := ⟨q, 2, none⟩) hq _
  have hk : ∀ g, F g → (((wx.setCell ⟨q, 0, none⟩ (.slice A a.ss.length c)).setCell ⟨q, 1, none⟩ (.slice B a.ts.length d)).setCell ⟨q, 2, none⟩ (.int .i64 a.off)).heap[g]? = wx.heap[g]? := fun g hg => hh g (fun e => hF (e ▸ hg))
  refine ⟨hfr, fun x hx => ?_, fun x hx => ?_, fun x hx => ?_, fun g hg => by rw [hsz]; exact h.inF g hg⟩
  · rcases List.mem_cons.1 hx with rfl | hx
    · refine ⟨A, B, c, d, fun k v hk => ?_, ha.keep hk⟩
      match k, hk with
      | 0, hk => obtain rfl : Value.slice A a.ss.length c = v := by simpa using hk
                 simp [go_sem, *]
      | 1, hk => obtain rfl : Value.slice B a.ts.length d = v := by simpa using hk
                 simp [go_sem, *]
      | 2, hk => obtain rfl : Value.int .i64 a.off = v := by simpa using hk
                 simp [go_sem, *]
    · obtain ⟨A', B', c', d', h1, h2⟩ := h.box x hx
      exact ⟨A', B', c', d', fun i v hv => by
        have := h1 i v hv
        rw [← this]
        simp only [World.cell?, hh x.1 (hL x hx)], h2.keep hk⟩
  · rcases List.mem_cons.1 hx with rfl | hx
    · exact ⟨hq, by rw [hsz]; exact zq⟩
    · rw [hsz]; exact h.lo x hx
  · rcases List.mem_cons.1 hx with rfl | hx
    · exact hF
    · exact h.far x hx
end Go.Proofs.YtbnaakognnkhdaaDoor
