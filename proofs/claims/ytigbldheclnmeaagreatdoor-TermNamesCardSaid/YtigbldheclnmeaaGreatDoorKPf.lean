/- A stack of rows of trees in memory; nothing of the program's walks. -/
import Derived.Test.YtigbldheclnmeaaGreatDoorKSq
import Derived.KernelRfl
namespace Go.Proofs.YtigbldheclnmeaaGreatDoor
open Go.RowKit
set_option linter.unusedSimpArgs false
set_option linter.unusedVariables false

abbrev hd (g n c : Nat) : Value := .slice (some ⟨g, 0, none⟩) n c
/-- The stack's cells, the outermost list first; the lists stand the innermost first. -/
def hdrs : List (List T) → List (Nat × Nat) → List Value
  | cur :: r, (g, c) :: gr => hdrs r gr ++ [hd g cur.length c]
  | _, _ => []
/-- One list: a row of its own; what lies within in blocks of D. -/
def Lvl (w : World) (base : Nat) (D : Nat → Prop) (g c : Nat) (cur : List T) : Prop := ∃ vs, w.ownsRow base 192 4 (hd g cur.length c) cur.length vs ∧ Fits w D cur vs
def Lvs (w : World) (base : Nat) (D : Nat → Prop) : List (List T) → List (Nat × Nat) → Prop
  | [], [] => True
  | cur :: r, (g, c) :: gr => Lvl w base D g c cur ∧ Lvs w base D r gr
  | _, _ => False
structure Stk (w : World) (base sb sc : Nat) (st : List (List T)) (gs : List (Nat × Nat)) (D : Nat → Prop) : Prop where
  row : w.ownsRow base 186 1 (hd sb st.length sc) st.length (hdrs st gs)
  lvs : Lvs w base D st gs
  one : sb ∉ gs.map (·.1)
  two : (gs.map (·.1)).Nodup
  dead : ∀ b, D b → b ≠ sb ∧ b ∉ gs.map (·.1) ∧ b < w.heap.size
section
variable {w w' : World} {base : Nat} {D D' : Nat → Prop} {st rest : List (List T)} {gs gr : List (Nat × Nat)}
theorem own_heap {e : TypeId} {size g n c : Nat} {xs : List Value} (h : w.ownsRow base e size (hd g n c) n xs) (k : w'.heap[g]? = w.heap[g]?) : w'.ownsRow base e size (hd g n c) n xs := by
  refine ⟨h.1, ?_⟩
  rcases h.2 with ⟨h', _⟩ | ⟨g', cap', cur, h', hb, hg, rest⟩
  · simp at h'
  · simp only [Value.slice.injEq, Option.some.injEq, Addr.mk.injEq, and_true, true_and] at h'
    obtain ⟨rfl, rfl⟩ := h'
    exact .inr ⟨g, c, cur, rfl, hb, k.trans hg, rest⟩
theorem own_cap {e : TypeId} {size g n c : Nat} {xs : List Value} (h : w.ownsRow base e size (hd g n c) n xs) : n ≤ c ∧ base ≤ g ∧ g < w.heap.size := by
  have hl := World.ownsRow.lt h g rfl
  rcases h.2 with ⟨h', _⟩ | ⟨g', cap', cur, h', hb, hg, hn, _⟩
  · simp at h'
  · simp only [Value.slice.injEq, Option.some.injEq, Addr.mk.injEq, and_true, true_and] at h'
    obtain ⟨rfl, rfl⟩ := h'
    exact ⟨hn, hl⟩
/-- Its front alone. -/
theorem own_front {e : TypeId} {size g n m c : Nat} {xs ys : List Value} (h : w.ownsRow base e size (hd g n c) n (xs ++ ys)) (hx : xs.length = m * size) (hm : m ≤ n) : w.ownsRow base e size (hd g m c) m xs := by
  refine ⟨hx, ?_⟩
  rcases h.2 with ⟨h', _⟩ | ⟨g', cap', cur, h', hb, hg, hnc, hcm, hcs, ht⟩
  · simp at h'
  · simp only [Value.slice.injEq, Option.some.injEq, Addr.mk.injEq, and_true, true_and] at h'
    obtain ⟨rfl, rfl⟩ := h'
    refine .inr ⟨g, c, cur, rfl, hb, hg, by omega, hcm, hcs, ?_⟩
    have e1 : (cur.toList.take (n * size)).take (m * size) = xs := by rw [ht, ← hx, List.take_left']; rfl
    rw [List.take_take, Nat.min_eq_left (Nat.mul_le_mul_right _ hm)] at e1
    exact e1
theorem hdrs_len : ∀ {st : List (List T)} {gs : List (Nat × Nat)}, Lvs w base D st gs → (hdrs st gs).length = st.length ∧ gs.length = st.length
  | [], [], _ => ⟨rfl, rfl⟩
  | cur :: r, (g, c) :: gr, h => by
    have := hdrs_len h.2
    simp [hdrs, this.1, this.2]
  | [], _ :: _, h => h.elim
  | _ :: _, [], h => h.elim
theorem Lvl.mono {g c : Nat} {cur : List T} (h : Lvl w base D g c cur) (hD : ∀ b, D b → D' b) (h1 : w'.heap[g]? = w.heap[g]?) (h2 : ∀ b, D b → w'.heap[b]? = w.heap[b]?) : Lvl w' base D' g c cur := by
  obtain ⟨vs, ho, hf⟩ := h
  exact ⟨vs, own_heap ho h1, hf.mono hD h2⟩
theorem Lvs.mono (hD : ∀ b, D b → D' b) (h2 : ∀ b, D b → w'.heap[b]? = w.heap[b]?) : ∀ {st : List (List T)} {gs : List (Nat × Nat)}, Lvs w base D st gs → (∀ b ∈ gs.map (·.1), w'.heap[b]? = w.heap[b]?) → Lvs w' base D' st gs
  | [], [], _, _ => trivial
  | cur :: r, (g, c) :: gr, h, h1 => ⟨h.1.mono hD (h1 g (by simp)) h2, Lvs.mono hD h2 h.2 fun b hb => h1 b (by simp at hb ⊢; exact .inr hb)⟩
  | [], _ :: _, h, _ => h.elim
  | _ :: _, [], h, _ => h.elim
theorem Lvs.lt : ∀ {st : List (List T)} {gs : List (Nat × Nat)}, Lvs w base D st gs → ∀ b ∈ gs.map (·.1), base ≤ b ∧ b < w.heap.size
  | [], [], _, b, hb => by simp at hb
  | cur :: r, (g, c) :: gr, h, b, hb => by
    obtain ⟨vs, ho, _⟩ := h.1
    simp only [List.map_cons, List.mem_cons] at hb
    rcases hb with rfl | hb
    · exact (own_cap ho).2
    · exact Lvs.lt h.2 b hb
  | [], _ :: _, h, _, _ => h.elim
  | _ :: _, [], h, _, _ => h.elim
theorem Stk.keep {sb sc : Nat} (h : Stk w base sb sc st gs D) (k : ∀ b, b < w.heap.size → w'.heap[b]? = w.heap[b]?) (hs : w.heap.size ≤ w'.heap.size) : Stk w' base sb sc st gs D := by
  refine ⟨own_heap h.row (k sb (own_cap h.row).2.2), h.lvs.mono (fun _ h => h) (fun b hb => k b (h.dead b hb).2.2) (fun b hb => k b (h.lvs.lt b hb).2), h.one, h.two, fun b hb => ?_⟩
  have := h.dead b hb
  exact ⟨this.1, this.2.1, by omega⟩
theorem Stk.fr {sb sc : Nat} (h : Stk w base sb sc st gs D) (k : Fr w w') : Stk w' base sb sc st gs D := h.keep (fun b hb => k.block b hb) k.size
/-- More dead blocks. -/
theorem Stk.dead_more {sb sc : Nat} (h : Stk w base sb sc st gs D) (hD : ∀ b, D b → D' b) (hd : ∀ b, D' b → b ≠ sb ∧ b ∉ gs.map (·.1) ∧ b < w.heap.size) : Stk w base sb sc st gs D' :=
  ⟨h.row, h.lvs.mono hD (fun _ _ => rfl) (fun _ _ => rfl), h.one, h.two, hd⟩
theorem Stk.headers {sb sc g c : Nat} {cur : List T} (h : Stk w base sb sc (cur :: rest) ((g, c) :: gr) D) : (hdrs rest gr).length = rest.length ∧ w.cell? ⟨sb, rest.length, none⟩ = some (hd g cur.length c) ∧ w.frozen? ⟨sb, rest.length, none⟩ = false := by
  have hl := (hdrs_len h.lvs.2).1
  refine ⟨hl, ?_, World.ownsRow.frozenAt h.row _⟩
  rw [World.ownsRow.cellAt h.row rest.length (by simp), hdrs, List.getElem?_append_right (by omega), hl]
  simp
/-- The innermost list goes: it is dead then, and its header's place too. -/
theorem Stk.pop {sb sc g c : Nat} {cur : List T} (h : Stk w base sb sc (cur :: rest) ((g, c) :: gr) D) : Stk w base sb sc rest gr (fun b => D b ∨ b = g) ∧ RdL w (fun b => D b ∨ b = g) (some ⟨g, 0, none⟩) cur := by
  obtain ⟨hl, _, _⟩ := h.headers
  obtain ⟨vs, ho, hf⟩ := h.lvs.1
  have hone := h.one
  have htwo := h.two
  simp only [List.map_cons, List.mem_cons, not_or, List.nodup_cons] at hone htwo
  have hlt := own_cap ho
  refine ⟨⟨own_front h.row (by rw [hl]; omega) (by simp), h.lvs.2.mono (fun _ h => .inl h) (fun _ _ => rfl) (fun _ _ => rfl), hone.2, htwo.2, ?_⟩, ?_⟩
  · rintro b (hb | rfl)
    · have := h.dead b hb
      simp only [List.map_cons, List.mem_cons, not_or] at this
      exact ⟨this.1, this.2.1.2, this.2.2⟩
    · exact ⟨fun e => hone.1 e.symm, htwo.1, hlt.2.2⟩
  · refine RdL.of_fits (.inr rfl) (hf.mono (fun _ h => .inl h) (fun _ _ => rfl)) fun i u hu => ?_
    have h := ho.cells (g := g) rfl i u hu
    rw [Nat.zero_add]
    rw [show (⟨g, i, none⟩ : Addr) = (⟨g, 0, none⟩ : Addr).add i by unfold Addr.add; by_cases h0 : i = 0 <;> simp [h0]]
    exact h
/-- A tree comes to the innermost list. -/
theorem Stk.app {sb sc g c g' c' : Nat} {cur : List T} {vs : List Value} {k n : Int} {s : ByteArray} {ks : List T} {A : Option Addr} {ca : Nat} (h : Stk w base sb sc (cur :: rest) ((g, c) :: gr) D) (hf : Fits w D cur vs)
    (hks : ks.length ≤ ca) (hrd : RdL w D A ks)
    (hrow : w'.ownsRow base 192 4 (hd g' (cur.length + 1) c') (cur.length + 1) (vs ++ [.int .i64 k, .string s, .int .i64 n, .slice A ks.length ca]))
    (hstk : w'.ownsRow base 186 1 (hd sb (rest.length + 1) sc) (rest.length + 1) (hdrs rest gr ++ [hd g' (cur.length + 1) c']))
    (hb : ∀ b, b < w.heap.size → b ≠ g → b ≠ sb → w'.heap[b]? = w.heap[b]?) (hs : w.heap.size ≤ w'.heap.size) (hg : g' = g ∨ w.heap.size ≤ g') : Stk w' base sb sc ((cur ++ [.node k s n ks]) :: rest) ((g', c') :: gr) D := by
  have hone := h.one
  have htwo := h.two
  simp only [List.map_cons, List.mem_cons, not_or, List.nodup_cons] at hone htwo
  have hD : ∀ b, D b → w'.heap[b]? = w.heap[b]? := fun b hD => by
    have := h.dead b hD
    simp only [List.map_cons, List.mem_cons, not_or] at this
    exact hb b this.2.2 this.2.1.1 this.1
  have hgr : ∀ b ∈ gr.map (·.1), w'.heap[b]? = w.heap[b]? := fun b hm => hb b (h.lvs.2.lt b hm).2 (fun e => htwo.1 (e ▸ hm)) (fun e => hone.2 (e ▸ hm))
  have hl : (cur ++ [T.node k s n ks]).length = cur.length + 1 := by simp
  have hsb := (own_cap h.row).2.2
  refine ⟨?_, ⟨⟨_, by rw [hl]; exact hrow, Fits.snoc hks (hrd.mono (fun _ h => h) hD) (hf.mono (fun _ h => h) hD)⟩, h.lvs.2.mono (fun _ h => h) hD hgr⟩, ?_, ?_, ?_⟩
  · rw [hdrs, hl]; exact hstk
  · simp only [List.map_cons, List.mem_cons, not_or]
    exact ⟨by rcases hg with rfl | hg
              · exact hone.1
              · omega, hone.2⟩
  · simp only [List.map_cons, List.nodup_cons]
    refine ⟨?_, htwo.2⟩
    rcases hg with rfl | hg
    · exact htwo.1
    · intro hm; have := (h.lvs.2.lt g' hm).2; omega
  · intro b hb'
    have := h.dead b hb'
    simp only [List.map_cons, List.mem_cons, not_or] at this ⊢
    refine ⟨this.1, ⟨?_, this.2.1.2⟩, by omega⟩
    rcases hg with rfl | hg
    · exact this.2.1.1
    · omega
/-- An empty list is opened. -/
theorem Stk.push {sb sc sb' sc' ge ce : Nat} (h : Stk w base sb sc st gs D) (hrow : w'.ownsRow base 192 4 (hd ge 0 ce) 0 [])
    (hstk : w'.ownsRow base 186 1 (hd sb' (st.length + 1) sc') (st.length + 1) (hdrs st gs ++ [hd ge 0 ce]))
    (hb : ∀ b, b < w.heap.size → b ≠ sb → w'.heap[b]? = w.heap[b]?) (hs : w.heap.size ≤ w'.heap.size) (hge : w.heap.size ≤ ge) (hsb : sb' = sb ∨ w.heap.size ≤ sb') (hne : sb' ≠ ge) : Stk w' base sb' sc' ([] :: st) ((ge, ce) :: gs) D := by
  have hD : ∀ b, D b → w'.heap[b]? = w.heap[b]? := fun b hD => hb b (h.dead b hD).2.2 (h.dead b hD).1
  have hgr : ∀ b ∈ gs.map (·.1), w'.heap[b]? = w.heap[b]? := fun b hm => hb b (h.lvs.lt b hm).2 (fun e => h.one (e ▸ hm))
  have hlsb := (own_cap h.row).2.2
  refine ⟨by rw [hdrs]; exact hstk, ⟨⟨[], hrow, by unfold Fits; rfl⟩, h.lvs.mono (fun _ h => h) hD hgr⟩, ?_, ?_, ?_⟩
  · simp only [List.map_cons, List.mem_cons, not_or]
    refine ⟨hne, fun hm => ?_⟩
    rcases hsb with rfl | hsb
    · exact h.one hm
    · have := (h.lvs.lt sb' hm).2; omega
  · simp only [List.map_cons, List.nodup_cons]
    exact ⟨fun hm => by have := (h.lvs.lt ge hm).2; omega, h.two⟩
  · intro b hb'
    have := h.dead b hb'
    simp only [List.map_cons, List.mem_cons, not_or]
    refine ⟨?_, ⟨by omega, this.2.1⟩, by omega⟩
    rcases hsb with rfl | hsb
    · exact this.1
    · omega
/-- The one list that is left. -/
theorem Stk.last {sb sc g c : Nat} {cur : List T} (h : Stk w base sb sc [cur] [(g, c)] D) : cur.length ≤ c ∧ RdL w (fun b => D b ∨ b = g) (some ⟨g, 0, none⟩) cur := by
  obtain ⟨vs, ho, hf⟩ := h.lvs.1
  exact ⟨(own_cap ho).1, h.pop.2⟩
end
theorem own_four {w : World} {base g n c : Nat} {e : TypeId} {xs : List Value} {a0 a1 a2 a3 : Value} (h : w.ownsRow base e 4 (hd g (n + 1) c) (n + 1) (xs ++ [a0, a1, a2, a3])) : w.cell? ⟨g, n * 4, none⟩ = some a0 ∧ w.cell? ⟨g, n * 4 + 1, none⟩ = some a1 ∧ w.cell? ⟨g, n * 4 + 2, none⟩ = some a2 ∧ w.cell? ⟨g, n * 4 + 3, none⟩ = some a3 ∧
    w.frozen? ⟨g, n * 4, none⟩ = false ∧ w.frozen? ⟨g, n * 4 + 1, none⟩ = false ∧ w.frozen? ⟨g, n * 4 + 2, none⟩ = false ∧ w.frozen? ⟨g, n * 4 + 3, none⟩ = false := by
  have hl : xs.length = n * 4 := by have := h.1; simp at this; omega
  have hc : ∀ j, j < 4 → w.cell? ⟨g, n * 4 + j, none⟩ = [a0, a1, a2, a3][j]? := fun j hj => by
    rw [World.ownsRow.cellAt h (n * 4 + j) (by omega), List.getElem?_append_right (by omega)]
    rw [show n * 4 + j - xs.length = j by omega]
  exact ⟨hc 0 (by omega), hc 1 (by omega), hc 2 (by omega), hc 3 (by omega), World.ownsRow.frozenAt h _, World.ownsRow.frozenAt h _, World.ownsRow.frozenAt h _, World.ownsRow.frozenAt h _⟩
/-- Four cells of a row of trees, put in the place of others. -/
theorem own_put4 {w : World} {base g n c : Nat} {xs : List Value} {a0 a1 a2 a3 : Value} (x0 x1 x2 x3 : Value) (h : w.ownsRow base 192 4 (hd g (n + 1) c) (n + 1) (xs ++ [a0, a1, a2, a3])) :
    ((((w.setCell ⟨g, n * 4, none⟩ x0).setCell ⟨g, n * 4 + 1, none⟩ x1).setCell ⟨g, n * 4 + 2, none⟩ x2).setCell ⟨g, n * 4 + 3, none⟩ x3).ownsRow base 192 4 (hd g (n + 1) c) (n + 1) (xs ++ [x0, x1, x2, x3]) := by
  have hl : xs.length = n * 4 := by have := h.1; simp at this; omega
  have h4 := ((((h.stored (n * 4) x0).1.stored (n * 4 + 1) x1).1.stored (n * 4 + 2) x2).1.stored (n * 4 + 3) x3).1
  rw [← hl] at h4 ⊢
  simpa [List.set_append] using h4
end Go.Proofs.YtigbldheclnmeaaGreatDoor
