/- What the program's calls of layer 12 answer, as contracts; sums that came in. -/
import Derived.Test.YtbnaakognnkhdaaGreatDoorNf
import Derived.Test.YtbnaakognnkhdaaGreatDoorNg
namespace Go.Proofs.YtbnaakognnkhdaaGreatDoor
open Go.RowKit
set_option linter.unusedSimpArgs false
set_option linter.unusedVariables false

/-- A sum: its symbols, how many times they count, the number. -/
structure Ln where
  ss : List ByteArray
  ts : List Int
  off : Int
def Ln.Sm (a : Ln) : Prop := SmS a.ss ∧ SmT a.ts ∧ I64 a.off
def Ln.norm (a : Ln) : Bool := normB a.ss a.ts
/-- Its symbols with how many times they count. -/
def Ln.P (a : Ln) : List (ByteArray × Int) := a.ss.zip a.ts
def zeroL : Ln := ⟨[], [], 0⟩
def ofP (P : List (ByteArray × Int)) (off : Int) : Ln := ⟨fsts P, snds P, off⟩
/-- The value v is the sum a, its rows in blocks of F. -/
def Ln.At (a : Ln) (F : Nat → Prop) (w : World) (v : Value) : Prop := LnF F w v a.ss a.ts a.off
theorem Ln.At.fr {a : Ln} {F : Nat → Prop} {w w' : World} {v : Value} (h : a.At F w v) (k : Fr w w') : a.At F w' v := LnF.fr h k
theorem Ln.At.mono {a : Ln} {F G : Nat → Prop} {w : World} {v : Value} (h : a.At F w v) (k : ∀ g, F g → G g) : a.At G w v := LnF.mono h k
theorem Ln.At.keep {a : Ln} {F : Nat → Prop} {w w' : World} {v : Value} (h : a.At F w v) (k : ∀ g, F g → w'.heap[g]? = w.heap[g]?) : a.At F w' v := LnF.keep h k
/-- Ahead of k times a sum, another. -/
def plusL (a b : Ln) (k : Int) : Ln := ofP (mergeP k a.P b.P) (add64 a.off (mul64 k b.off))
/-- What Add answers. -/
def addL (a b : Ln) : Ln × Int := if a.norm = true ∧ b.norm = true then (if (plusL a b 1).ss.length ≤ 16 then (plusL a b 1, 0) else (zeroL, 123)) else (zeroL, 121)
/-- What Times answers. -/
def timesL (a : Ln) (n : Int) : Ln := if a.norm = true then plusL zeroL a n else zeroL
theorem norm_len {a : Ln} (h : a.norm = true) : a.ss.length = a.ts.length ∧ a.ss.length ≤ 16 := by
  unfold Ln.norm normB at h
  simp only [Bool.and_eq_true, decide_eq_true_eq] at h
  exact ⟨h.1.1, h.1.2⟩
theorem norm_fsts {a : Ln} (h : a.norm = true) : fsts a.P = a.ss := by
  have := norm_len h
  unfold fsts Ln.P
  rw [List.map_fst_zip (by omega)]
theorem norm_snds {a : Ln} (h : a.norm = true) : snds a.P = a.ts := by
  have := norm_len h
  unfold snds Ln.P
  rw [List.map_snd_zip (by omega)]
theorem norm_plen {a : Ln} (h : a.norm = true) : a.P.length = a.ss.length := by
  have := norm_len h
  unfold Ln.P
  rw [List.length_zip]
  omega
theorem P_zero : zeroL.P = [] := rfl
def AliveC : Prop := ∀ w : World, Calls Tryz.prog 6 #[] w fun e w' => e = .returned (.bool true) ∧ Fr w w'
/-- F and what is new. -/
def Also (F : Nat → Prop) (w w' : World) (g : Nat) : Prop := F g ∨ New w w' g
def AddC : Prop := ∀ (a b : Ln) (F : Nat → Prop) (u v : Value) (w : World), a.Sm → b.Sm → a.At F w u → b.At F w v → Calls Tryz.prog 8 #[u, v] w fun e w' => ∃ x, e = .returned (.tuple #[x, .int .i64 (addL a b).2]) ∧ (addL a b).1.At (Also F w w') w' x ∧ Fr w w'
def TimesC : Prop := ∀ (a : Ln) (n : Int) (F : Nat → Prop) (u : Value) (w : World), a.Sm → I64 n → a.At F w u → Calls Tryz.prog 9 #[u, .int .i64 n] w fun e w' => ∃ x, e = .returned x ∧ (timesL a n).At (Also F w w') w' x ∧ Fr w w'
theorem normal_at {a : Ln} {F : Nat → Prop} {w : World} {v : Value} (hs : a.Sm) (h : a.At F w v) : Calls Tryz.prog 11 #[v] w fun e w' => e = .returned (.bool a.norm) ∧ Fr w w' := by
  obtain ⟨A, B, c, d, rfl, h1, h2, _⟩ := h
  exact normal_any a.ss a.ts a.off A B c d _ _ w rfl rfl hs.1 hs.2.1 h1 h2
theorem copy_at {a : Ln} {F : Nat → Prop} {w : World} {v : Value} (hs : a.Sm) (h : a.At F w v) : Calls Tryz.prog 7 #[v] w fun e w' => ∃ x, e = .returned x ∧ a.At (Also F w w') w' x ∧ Fr w w' := by
  obtain ⟨A, B, c, d, rfl, h1, h2, _⟩ := h
  exact (copyl_any a.ss a.ts a.off A B c d _ _ w rfl rfl hs.1 hs.2.1 h1 h2).mono fun e w' ⟨x, e1, hx, hf⟩ => ⟨x, e1, LnF.mono hx fun g h => .inr h, hf⟩
def eqL (a b : Ln) : Bool := smB a.ss b.ss a.ts b.ts a.off b.off
theorem eqL_refl (a : Ln) : eqL a a = true := smB_refl _ _ _
theorem same_at {a b : Ln} {F G : Nat → Prop} {w : World} {u v : Value} (hs : a.Sm) (ht : b.Sm) (h : a.At F w u) (k : b.At G w v) : Calls Tryz.prog 10 #[u, v] w fun e w' => e = .returned (.bool (eqL a b)) ∧ Fr w w' := by
  obtain ⟨A, B, c, d, rfl, h1, h2, _⟩ := h
  obtain ⟨A', B', c', d', rfl, k1, k2, _⟩ := k
  exact samel_any a.ss b.ss a.ts b.ts a.off b.off A B A' B' c d c' d' _ _ _ _ w rfl rfl rfl rfl hs.1 hs.2.1 ht.1 ht.2.1 h1 h2 k1 k2
theorem plus_at {a b : Ln} {F G : Nat → Prop} {w : World} {u v : Value} {k : Int} (hs : a.norm = true) (ht : b.norm = true) (h : a.At F w u) (g : b.At G w v) : Calls Tryz.prog 12 #[u, v, .int .i64 k] w fun e w' => ∃ x, e = .returned x ∧ (plusL a b k).At (Also F w w') w' x ∧ Fr w w' := by
  obtain ⟨A, B, c, d, rfl, h1, h2, _⟩ := h
  obtain ⟨A', B', c', d', rfl, k1, k2, _⟩ := g
  have e1 := norm_len hs
  have e2 := norm_len ht
  rw [← e1.1, ← e2.1]
  rw [← norm_fsts hs] at h1
  rw [← norm_snds hs] at h2
  rw [← norm_fsts ht] at k1
  rw [← norm_snds ht] at k2
  exact (plus_any a.P b.P a.off b.off k A B A' B' c d c' d' _ _ w (norm_plen hs) (norm_plen ht) (by omega) (by omega) h1 h2 k1 k2).mono fun e w' ⟨x, e1, hx, hf⟩ => ⟨x, e1, LnF.mono hx fun g h => .inr h, hf⟩
theorem zero_at (F : Nat → Prop) (w : World) : zeroL.At F w (.agg #[.slice none 0 0, .slice none 0 0, .int .i64 0]) := ⟨none, none, 0, 0, rfl, Rd.nil, Rd.nil, fun h => absurd h (by decide), fun h => absurd h (by decide)⟩
theorem zero_norm : zeroL.norm = true := by show normB [] [] = true; unfold normB; rw [normK]; simp
theorem zero_sm : zeroL.Sm := by refine ⟨⟨by decide, fun s h => by cases h⟩, ⟨by decide, fun s h => by cases h⟩, by unfold I64; decide⟩
theorem wrap64_i64 (n : Int) : I64 (wrap64 n) := by unfold wrap64 I64; omega
theorem merge_sm {k : Int} : ∀ (N : Nat) (l m : List (ByteArray × Int)), l.length + m.length ≤ N → (∀ x ∈ l, x.1.size ≤ 140737488351232 ∧ I64 x.2) → (∀ x ∈ m, x.1.size ≤ 140737488351232 ∧ I64 x.2) → (mergeP k l m).length ≤ l.length + m.length ∧ ∀ x ∈ mergeP k l m, x.1.size ≤ 140737488351232 ∧ I64 x.2 := by
  have push : ∀ (s : ByteArray) (n : Int) (l : List (ByteArray × Int)) (q : Nat), s.size ≤ 140737488351232 → I64 n → l.length ≤ q → (∀ x ∈ l, x.1.size ≤ 140737488351232 ∧ I64 x.2) → (pushP s n l).length ≤ q + 1 ∧ ∀ x ∈ pushP s n l, x.1.size ≤ 140737488351232 ∧ I64 x.2 := by
    intro s n l q h1 h2 h3 h4
    unfold pushP
    split
    · exact ⟨by omega, h4⟩
    · refine ⟨by simp; omega, fun x hx => ?_⟩
      rcases List.mem_cons.1 hx with rfl | hx
      · exact ⟨h1, h2⟩
      · exact h4 x hx
  intro N
  induction N with
  | zero =>
    intro l m h _ _
    have e1 : l = [] := List.eq_nil_of_length_eq_zero (by omega)
    have e2 : m = [] := List.eq_nil_of_length_eq_zero (by omega)
    subst e1 e2
    rw [mergeP]
    exact ⟨by simp, fun x h => by cases h⟩
  | succ N ih =>
    intro l m h hl hm
    match l, m with
    | [], [] => rw [mergeP]; exact ⟨by simp, fun x h => by cases h⟩
    | x :: r, [] =>
      rw [mergeP]
      have h1 := hl x List.mem_cons_self
      have h2 := ih r [] (by simp at h ⊢; omega) (fun y hy => hl y (List.mem_cons_of_mem _ hy)) hm
      have := push x.1 x.2 _ _ h1.1 h1.2 h2.1 h2.2
      exact ⟨by have := this.1; simp at this ⊢; omega, this.2⟩
    | [], y :: s =>
      rw [mergeP]
      have h1 := hm y List.mem_cons_self
      have h2 := ih [] s (by simp at h ⊢; omega) hl (fun z hz => hm z (List.mem_cons_of_mem _ hz))
      have := push y.1 (mul64 k y.2) _ _ h1.1 (wrap64_i64 _) h2.1 h2.2
      exact ⟨by have := this.1; simp at this ⊢; omega, this.2⟩
    | x :: r, y :: s =>
      rw [mergeP]
      have hx := hl x List.mem_cons_self
      have hy := hm y List.mem_cons_self
      have hr : ∀ z ∈ r, z.1.size ≤ 140737488351232 ∧ I64 z.2 := fun z hz => hl z (List.mem_cons_of_mem _ hz)
      have hs : ∀ z ∈ s, z.1.size ≤ 140737488351232 ∧ I64 z.2 := fun z hz => hm z (List.mem_cons_of_mem _ hz)
      split
      · have h2 := ih r (y :: s) (by simp at h ⊢; omega) hr hm
        have := push x.1 x.2 _ _ hx.1 hx.2 h2.1 h2.2
        exact ⟨by have := this.1; simp at this ⊢; omega, this.2⟩
      · split
        · have h2 := ih (x :: r) s (by simp at h ⊢; omega) hl hs
          have := push y.1 (mul64 k y.2) _ _ hy.1 (wrap64_i64 _) h2.1 h2.2
          exact ⟨by have := this.1; simp at this ⊢; omega, this.2⟩
        · have h2 := ih r s (by simp at h ⊢; omega) hr hs
          have := push x.1 (add64 x.2 (mul64 k y.2)) _ _ hx.1 (wrap64_i64 _) h2.1 h2.2
          exact ⟨by have := this.1; simp at this ⊢; omega, this.2⟩
theorem norm_mem {a : Ln} (hs : a.Sm) : ∀ x ∈ a.P, x.1.size ≤ 140737488351232 ∧ I64 x.2 := fun x hx =>
  ⟨hs.1.2 _ (List.of_mem_zip hx).1, hs.2.1.2 _ (List.of_mem_zip hx).2⟩
theorem plus_sm {a b : Ln} {k : Int} (ha : a.Sm) (hb : b.Sm) (na : a.norm = true) (nb : b.norm = true) : (plusL a b k).Sm := by
  have h := merge_sm (k := k) _ a.P b.P (Nat.le_refl _) (norm_mem ha) (norm_mem hb)
  have h1 := norm_len na
  have h2 := norm_len nb
  rw [norm_plen na, norm_plen nb] at h
  refine ⟨⟨?_, fun s hs => ?_⟩, ⟨?_, fun s hs => ?_⟩, wrap64_i64 _⟩
  · simp only [plusL, ofP, fsts, List.length_map]; omega
  · obtain ⟨x, hx, rfl⟩ := List.mem_map.1 hs
    exact (h.2 x hx).1
  · simp only [plusL, ofP, snds, List.length_map]; omega
  · obtain ⟨x, hx, rfl⟩ := List.mem_map.1 hs
    exact (h.2 x hx).2
theorem add_sm {a b : Ln} (ha : a.Sm) (hb : b.Sm) : (addL a b).1.Sm := by
  unfold addL
  split
  · next h =>
    split
    · exact plus_sm ha hb h.1 h.2
    · exact zero_sm
  · exact zero_sm
theorem times_sm {a : Ln} {n : Int} (ha : a.Sm) : (timesL a n).Sm := by
  unfold timesL
  split
  · next h => exact plus_sm zero_sm ha zero_norm h
  · exact zero_sm
/-- A block holds a sum: its cells, its rows in blocks of F. -/
def BoxF (w : World) (q : Nat) (F : Nat → Prop) (a : Ln) : Prop := ∃ A B c d, BlkC w q [.slice A a.ss.length c, .slice B a.ts.length d, .int .i64 a.off] ∧ a.At F w (.agg #[.slice A a.ss.length c, .slice B a.ts.length d, .int .i64 a.off])
theorem BoxF.fr {w w' : World} {q : Nat} {F : Nat → Prop} {a : Ln} (h : BoxF w q F a) (k : Fr w w') : BoxF w' q F a := by
  obtain ⟨A, B, c, d, h1, h2⟩ := h
  exact ⟨A, B, c, d, h1.fr k, h2.fr k⟩
theorem BoxF.mono {w : World} {q : Nat} {F G : Nat → Prop} {a : Ln} (h : BoxF w q F a) (k : ∀ g, F g → G g) : BoxF w q G a := by
  obtain ⟨A, B, c, d, h1, h2⟩ := h
  exact ⟨A, B, c, d, h1, h2.mono k⟩
/-- The sums that a law's variables hold: boxes apart from one another and from all rows. -/
structure Bxs (w0 wx : World) (F : Nat → Prop) (L : List (Nat × Ln)) : Prop where
  fr : Fr w0 wx
  box : ∀ x ∈ L, BoxF wx x.1 F x.2
  lo : ∀ x ∈ L, w0.heap.size ≤ x.1 ∧ x.1 < wx.heap.size
  far : ∀ x ∈ L, ¬ F x.1
  inF : ∀ g, F g → g < wx.heap.size
theorem Bxs.call {w0 wx w' : World} {F : Nat → Prop} {L : List (Nat × Ln)} (h : Bxs w0 wx F L) (k : Fr wx w') : Bxs w0 w' F L :=
  ⟨h.fr.call k, fun x hx => (h.box x hx).fr k, fun x hx => ⟨(h.lo x hx).1, Nat.lt_of_lt_of_le (h.lo x hx).2 k.size⟩, h.far, fun g hg => Nat.lt_of_lt_of_le (h.inF g hg) k.size⟩
/-- Behind a call whose answer's rows may be new. -/
theorem Bxs.also {w0 wx w' : World} {F : Nat → Prop} {L : List (Nat × Ln)} (h : Bxs w0 wx F L) (k : Fr wx w') : Bxs w0 w' (Also F wx w') L :=
  ⟨h.fr.call k, fun x hx => ((h.box x hx).fr k).mono fun g hg => .inl hg, fun x hx => ⟨(h.lo x hx).1, Nat.lt_of_lt_of_le (h.lo x hx).2 k.size⟩,
    fun x hx hF => by
      rcases hF with h1 | h1
      · exact h.far x hx h1
      · have := (h.lo x hx).2; have := h1.1; omega,
    fun g hg => by
      rcases hg with h1 | h1
      · exact Nat.lt_of_lt_of_le (h.inF g h1) k.size
      · exact h1.2⟩
/-- A new box for a sum. -/
theorem Bxs.add {w0 wx : World} {F : Nat → Prop} {L : List (Nat × Ln)} {a : Ln} {A B : Option Addr} {c d : Nat} {t : TypeId} (h : Bxs w0 wx F L) (ha : a.At F wx (.agg #[.slice A a.ss.length c, .slice B a.ts.length d, .int .i64 a.off])) :
    Bxs w0 (wx.alloc (.cells #[.slice A a.ss.length c, .slice B a.ts.length d, .int .i64 a.off] t)) F ((wx.heap.size, a) :: L) := by
  have k := (Fr.refl wx).alloc (.cells #[.slice A a.ss.length c, .slice B a.ts.length d, .int .i64 a.off] t)
  have h' := h.call k
  have hz := h.fr.size
  refine ⟨h'.fr, fun x hx => ?_, fun x hx => ?_, fun x hx => ?_, h'.inF⟩
  · rcases List.mem_cons.1 hx with rfl | hx
    · exact ⟨A, B, c, d, BlkC.alloc, ha.fr k⟩
    · exact h'.box x hx
  · rcases List.mem_cons.1 hx with rfl | hx
    · exact ⟨hz, by simp⟩
    · exact h'.lo x hx
  · rcases List.mem_cons.1 hx with rfl | hx
    · exact fun hF => by have := h.inF _ hF; omega
    · exact h'.far x hx
theorem set3_heap (w : World) (q : Nat) (x y z : Value) (g : Nat) (hg : g ≠ q) : (((w.setCell ⟨q, 0, none⟩ x).setCell ⟨q, 1, none⟩ y).setCell ⟨q, 2, none⟩ z).heap[g]? = w.heap[g]? := by
  rw [Below.heap_setCell _ ⟨q, 2, none⟩ z g hg, Below.heap_setCell _ ⟨q, 1, none⟩ y g hg, Below.heap_setCell _ ⟨q, 0, none⟩ x g hg]
/-- A sum is put into a box that was made before. -/
theorem Bxs.put {w0 wx : World} {F : Nat → Prop} {L : List (Nat × Ln)} {a : Ln} {A B : Option Addr} {c d q : Nat} {x y z : Value} (h : Bxs w0 wx F L) (ha : a.At F wx (.agg #[.slice A a.ss.length c, .slice B a.ts.length d, .int .i64 a.off]))
    (hq : w0.heap.size ≤ q) (hz : BlkC wx q [x, y, z]) (hF : ¬ F q) (hL : ∀ x ∈ L, x.1 ≠ q) :
    Bxs w0 (((wx.setCell ⟨q, 0, none⟩ (.slice A a.ss.length c)).setCell ⟨q, 1, none⟩ (.slice B a.ts.length d)).setCell ⟨q, 2, none⟩ (.int .i64 a.off)) F ((q, a) :: L) := by
  obtain ⟨z0, z1, z2⟩ := hz.three
  have zq := lt_of_cell z0
  have hh := set3_heap wx q (.slice A a.ss.length c) (.slice B a.ts.length d) (.int .i64 a.off)
  have hsz : (((wx.setCell ⟨q, 0, none⟩ (.slice A a.ss.length c)).setCell ⟨q, 1, none⟩ (.slice B a.ts.length d)).setCell ⟨q, 2, none⟩ (.int .i64 a.off)).heap.size = wx.heap.size := by simp
  have hfr : Fr w0 (((wx.setCell ⟨q, 0, none⟩ (.slice A a.ss.length c)).setCell ⟨q, 1, none⟩ (.slice B a.ts.length d)).setCell ⟨q, 2, none⟩ (.int .i64 a.off)) := ((h.fr.set (p := ⟨q, 0, none⟩) hq _).set (p := ⟨q, 1, none⟩) hq _).set (p := ⟨q, 2, none⟩) hq _
  have hk : ∀ g, F g → (((wx.setCell ⟨q, 0, none⟩ (.slice A a.ss.length c)).setCell ⟨q, 1, none⟩ (.slice B a.ts.length d)).setCell ⟨q, 2, none⟩ (.int .i64 a.off)).heap[g]? = wx.heap[g]? := fun g hg => hh g (fun e => hF (e ▸ hg))
  refine ⟨hfr, fun x hx => ?_, fun x hx => ?_, fun x hx => ?_, fun g hg => by rw [hsz]; exact h.inF g hg⟩
  · rcases List.mem_cons.1 hx with rfl | hx
    · refine ⟨A, B, c, d, fun k v hk => ?_, ha.keep hk⟩
      match k, hk with
      | 0, hk => obtain rfl : Value.slice A a.ss.length c = v := by simpa using hk
                 simp [go_sem, *]
      | 1, hk => obtain rfl : Value.slice B a.ts.length d = v := by simpa using hk
                 simp [go_sem, *]
      | 2, hk => obtain rfl : Value.int .i64 a.off = v := by simpa using hk
                 simp [go_sem, *]
    · obtain ⟨A', B', c', d', h1, h2⟩ := h.box x hx
      exact ⟨A', B', c', d', fun i v hv => by
        have := h1 i v hv
        rw [← this]
        simp only [World.cell?, hh x.1 (hL x hx)], h2.keep hk⟩
  · rcases List.mem_cons.1 hx with rfl | hx
    · exact ⟨hq, by rw [hsz]; exact zq⟩
    · rw [hsz]; exact h.lo x hx
  · rcases List.mem_cons.1 hx with rfl | hx
    · exact hF
    · exact h.far x hx
end Go.Proofs.YtbnaakognnkhdaaGreatDoor
