/- A stack of rows of trees in memory; nothing of the program's walks. What a term of a form may speak of, and terms in memory; nothing of the program. Facts on widths; nothing of the program. -/
import Derived.Test.YtdipnhghdajplaaGreatDoorP01
import Derived.KernelRfl
namespace Go.Proofs.YtdipnhghdajplaaGreatDoor
open Go.RowKit
set_option linter.unusedSimpArgs false
set_option linter.unusedVariables false

abbrev hd (g n c : Nat) : Value := .slice (some ⟨g, 0, none⟩) n c
/-- The stack's cells, the outermost list first; the lists stand the innermost first. -/
def hdrs : List (List T) → List (Nat × Nat) → List Value
  | cur :: r, (g, c) :: gr => hdrs r gr ++ [hd g cur.length c]
  | _, _ => []
/-- One list: a row of its own; what lies within in blocks of D. -/
def Lvl (w : World) (base : Nat) (D : Nat → Prop) (g c : Nat) (cur : List T) : Prop := ∃ vs, w.ownsRow base 144 4 (hd g cur.length c) cur.length vs ∧ Fits w D cur vs
def Lvs (w : World) (base : Nat) (D : Nat → Prop) : List (List T) → List (Nat × Nat) → Prop
  | [], [] => True
  | cur :: r, (g, c) :: gr => Lvl w base D g c cur ∧ Lvs w base D r gr
  | _, _ => False
structure Stk (w : World) (base sb sc : Nat) (st : List (List T)) (gs : List (Nat × Nat)) (D : Nat → Prop) : Prop where
  row : w.ownsRow base 138 1 (hd sb st.length sc) st.length (hdrs st gs)
  lvs : Lvs w base D st gs
  one : sb ∉ gs.map (·.1)
  two : (gs.map (·.1)).Nodup
  dead : ∀ b, D b → b ≠ sb ∧ b ∉ gs.map (·.1) ∧ b < w.heap.size
section
variable {w w' : World} {base : Nat} {D D' : Nat → Prop} {st rest : List (List T)} {gs gr : List (Nat × Nat)}
theorem own_heap {e : TypeId} {size g n c : Nat} {xs : List Value} (h : w.ownsRow base e size (hd g n c) n xs) (k : w'.heap[g]? = w.heap[g]?) : w'.ownsRow base e size (hd g n c) n xs := by
  refine ⟨h.1, ?_⟩
  rcases h.2 with ⟨h', _⟩ | ⟨g', cap', cur, h', hb, hg, rest⟩
  · simp at h'
  · simp only [Value.slice.injEq, Option.some.injEq, Addr.mk.injEq, and_true, true_and] at h'
    obtain ⟨rfl, rfl⟩ := h'
    exact .inr ⟨g, c, cur, rfl, hb, k.trans hg, rest⟩
theorem own_cap {e : TypeId} {size g n c : Nat} {xs : List Value} (h : w.ownsRow base e size (hd g n c) n xs) : n ≤ c ∧ base ≤ g ∧ g < w.heap.size := by
  have hl := World.ownsRow.lt h g rfl
  rcases h.2 with ⟨h', _⟩ | ⟨g', cap', cur, h', hb, hg, hn, _⟩
  · simp at h'
  · simp only [Value.slice.injEq, Option.some.injEq, Addr.mk.injEq, and_true, true_and] at h'
    obtain ⟨rfl, rfl⟩ := h'
    exact ⟨hn, hl⟩
/-- Its front alone. -/
theorem own_front {e : TypeId} {size g n m c : Nat} {xs ys : List Value} (h : w.ownsRow base e size (hd g n c) n (xs ++ ys)) (hx : xs.length = m * size) (hm : m ≤ n) : w.ownsRow base e size (hd g m c) m xs := by
  refine ⟨hx, ?_⟩
  rcases h.2 with ⟨h', _⟩ | ⟨g', cap', cur, h', hb, hg, hnc, hcm, hcs, ht⟩
  · simp at h'
  · simp only [Value.slice.injEq, Option.some.injEq, Addr.mk.injEq, and_true, true_and] at h'
    obtain ⟨rfl, rfl⟩ := h'
    refine .inr ⟨g, c, cur, rfl, hb, hg, by omega, hcm, hcs, ?_⟩
    have e1 : (cur.toList.take (n * size)).take (m * size) = xs := by rw [ht, ← hx, List.take_left']; rfl
    rw [List.take_take, Nat.min_eq_left (Nat.mul_le_mul_right _ hm)] at e1
    exact e1
theorem hdrs_len : ∀ {st : List (List T)} {gs : List (Nat × Nat)}, Lvs w base D st gs → (hdrs st gs).length = st.length ∧ gs.length = st.length
  | [], [], _ => ⟨rfl, rfl⟩
  | cur :: r, (g, c) :: gr, h => by
    have := hdrs_len h.2
    simp [hdrs, this.1, this.2]
  | [], _ :: _, h => h.elim
  | _ :: _, [], h => h.elim
theorem Lvl.mono {g c : Nat} {cur : List T} (h : Lvl w base D g c cur) (hD : ∀ b, D b → D' b) (h1 : w'.heap[g]? = w.heap[g]?) (h2 : ∀ b, D b → w'.heap[b]? = w.heap[b]?) : Lvl w' base D' g c cur := by
  obtain ⟨vs, ho, hf⟩ := h
  exact ⟨vs, own_heap ho h1, hf.mono hD h2⟩
theorem Lvs.mono (hD : ∀ b, D b → D' b) (h2 : ∀ b, D b → w'.heap[b]? = w.heap[b]?) : ∀ {st : List (List T)} {gs : List (Nat × Nat)}, Lvs w base D st gs → (∀ b ∈ gs.map (·.1), w'.heap[b]? = w.heap[b]?) → Lvs w' base D' st gs
  | [], [], _, _ => trivial
  | cur :: r, (g, c) :: gr, h, h1 => ⟨h.1.mono hD (h1 g (by simp)) h2, Lvs.mono hD h2 h.2 fun b hb => h1 b (by simp at hb ⊢; exact .inr hb)⟩
  | [], _ :: _, h, _ => h.elim
  | _ :: _, [], h, _ => h.elim
theorem Lvs.lt : ∀ {st : List (List T)} {gs : List (Nat × Nat)}, Lvs w base D st gs → ∀ b ∈ gs.map (·.1), base ≤ b ∧ b < w.heap.size
  | [], [], _, b, hb => by simp at hb
  | cur :: r, (g, c) :: gr, h, b, hb => by
    obtain ⟨vs, ho, _⟩ := h.1
    simp only [List.map_cons, List.mem_cons] at hb
    rcases hb with rfl | hb
    · exact (own_cap ho).2
    · exact Lvs.lt h.2 b hb
  | [], _ :: _, h, _, _ => h.elim
  | _ :: _, [], h, _, _ => h.elim
theorem Stk.keep {sb sc : Nat} (h : Stk w base sb sc st gs D) (k : ∀ b, b < w.heap.size → w'.heap[b]? = w.heap[b]?) (hs : w.heap.size ≤ w'.heap.size) : Stk w' base sb sc st gs D := by
  refine ⟨own_heap h.row (k sb (own_cap h.row).2.2), h.lvs.mono (fun _ h => h) (fun b hb => k b (h.dead b hb).2.2) (fun b hb => k b (h.lvs.lt b hb).2), h.one, h.two, fun b hb => ?_⟩
  have := h.dead b hb
  exact ⟨this.1, this.2.1, by omega⟩
theorem Stk.fr {sb sc : Nat} (h : Stk w base sb sc st gs D) (k : Fr w w') : Stk w' base sb sc st gs D := h.keep (fun b hb => k.block b hb) k.size
/-- More dead blocks. -/
theorem Stk.dead_more {sb sc : Nat} (h : Stk w base sb sc st gs D) (hD : ∀ b, D b → D' b) (hd : ∀ b, D' b → b ≠ sb ∧ b ∉ gs.map (·.1) ∧ b < w.heap.size) : Stk w base sb sc st gs D' :=
  ⟨h.row, h.lvs.mono hD (fun _ _ => rfl) (fun _ _ => rfl), h.one, h.two, hd⟩
theorem Stk.headers {sb sc g c : Nat} {cur : List T} (h : Stk w base sb sc (cur :: rest) ((g, c) :: gr) D) : (hdrs rest gr).length = rest.length ∧ w.cell? ⟨sb, rest.length, none⟩ = some (hd g cur.length c) ∧ w.frozen? ⟨sb, rest.length, none⟩ = false := by
  have hl := (hdrs_len h.lvs.2).1
  refine ⟨hl, ?_, World.ownsRow.frozenAt h.row _⟩
  rw [World.ownsRow.cellAt h.row rest.length (by simp), hdrs, List.getElem?_append_right (by omega), hl]
  simp
/-- The innermost list goes: it is dead then, and its header's place too. -/
theorem Stk.pop {sb sc g c : Nat} {cur : List T} (h : Stk w base sb sc (cur :: rest) ((g, c) :: gr) D) : Stk w base sb sc rest gr (fun b => D b ∨ b = g) ∧ RdL w (fun b => D b ∨ b = g) (some ⟨g, 0, none⟩) cur := by
  obtain ⟨hl, _, _⟩ := h.headers
  obtain ⟨vs, ho, hf⟩ := h.lvs.1
  have hone := h.one
  have htwo := h.two
  simp only [List.map_cons, List.mem_cons, not_or, List.nodup_cons] at hone htwo
  have hlt := own_cap ho
  refine ⟨⟨own_front h.row (by rw [hl]; omega) (by simp), h.lvs.2.mono (fun _ h => .inl h) (fun _ _ => rfl) (fun _ _ => rfl), hone.2, htwo.2, ?_⟩, ?_⟩
  · rintro b (hb | rfl)
    · have := h.dead b hb
      simp only [List.map_cons, List.mem_cons, not_or] at this
      exact ⟨this.1, this.2.1.2, this.2.2⟩
    · exact ⟨fun e => hone.1 e.symm, htwo.1, hlt.2.2⟩
  · refine RdL.of_fits (.inr rfl) (hf.mono (fun _ h => .inl h) (fun _ _ => rfl)) fun i u hu => ?_
    have h := ho.cells (g := g) rfl i u hu
    rw [Nat.zero_add]
    rw [show (⟨g, i, none⟩ : Addr) = (⟨g, 0, none⟩ : Addr).add i by unfold Addr.add; by_cases h0 : i = 0 <;> simp [h0]]
    exact h
/-- A tree comes to the innermost list. -/
theorem Stk.app {sb sc g c g' c' : Nat} {cur : List T} {vs : List Value} {k n : Int} {s : ByteArray} {ks : List T} {A : Option Addr} {ca : Nat} (h : Stk w base sb sc (cur :: rest) ((g, c) :: gr) D) (hf : Fits w D cur vs)
    (hks : ks.length ≤ ca) (hrd : RdL w D A ks)
    (hrow : w'.ownsRow base 144 4 (hd g' (cur.length + 1) c') (cur.length + 1) (vs ++ [.int .i64 k, .string s, .int .i64 n, .slice A ks.length ca]))
    (hstk : w'.ownsRow base 138 1 (hd sb (rest.length + 1) sc) (rest.length + 1) (hdrs rest gr ++ [hd g' (cur.length + 1) c']))
    (hb : ∀ b, b < w.heap.size → b ≠ g → b ≠ sb → w'.heap[b]? = w.heap[b]?) (hs : w.heap.size ≤ w'.heap.size) (hg : g' = g ∨ w.heap.size ≤ g') : Stk w' base sb sc ((cur ++ [.node k s n ks]) :: rest) ((g', c') :: gr) D := by
  have hone := h.one
  have htwo := h.two
  simp only [List.map_cons, List.mem_cons, not_or, List.nodup_cons] at hone htwo
  have hD : ∀ b, D b → w'.heap[b]? = w.heap[b]? := fun b hD => by
    have := h.dead b hD
    simp only [List.map_cons, List.mem_cons, not_or] at this
    exact hb b this.2.2 this.2.1.1 this.1
  have hgr : ∀ b ∈ gr.map (·.1), w'.heap[b]? = w.heap[b]? := fun b hm => hb b (h.lvs.2.lt b hm).2 (fun e => htwo.1 (e ▸ hm)) (fun e => hone.2 (e ▸ hm))
  have hl : (cur ++ [T.node k s n ks]).length = cur.length + 1 := by simp
  have hsb := (own_cap h.row).2.2
  refine ⟨?_, ⟨⟨_, by rw [hl]; exact hrow, Fits.snoc hks (hrd.mono (fun _ h => h) hD) (hf.mono (fun _ h => h) hD)⟩, h.lvs.2.mono (fun _ h => h) hD hgr⟩, ?_, ?_, ?_⟩
  · rw [hdrs, hl]; exact hstk
  · simp only [List.map_cons, List.mem_cons, not_or]
    exact ⟨by rcases hg with rfl | hg
              · exact hone.1
              · omega, hone.2⟩
  · simp only [List.map_cons, List.nodup_cons]
    refine ⟨?_, htwo.2⟩
    rcases hg with rfl | hg
    · exact htwo.1
    · intro hm; have := (h.lvs.2.lt g' hm).2; omega
  · intro b hb'
    have := h.dead b hb'
    simp only [List.map_cons, List.mem_cons, not_or] at this ⊢
    refine ⟨this.1, ⟨?_, this.2.1.2⟩, by omega⟩
    rcases hg with rfl | hg
    · exact this.2.1.1
    · omega
/-- An empty list is opened. -/
theorem Stk.push {sb sc sb' sc' ge ce : Nat} (h : Stk w base sb sc st gs D) (hrow : w'.ownsRow base 144 4 (hd ge 0 ce) 0 [])
    (hstk : w'.ownsRow base 138 1 (hd sb' (st.length + 1) sc') (st.length + 1) (hdrs st gs ++ [hd ge 0 ce]))
    (hb : ∀ b, b < w.heap.size → b ≠ sb → w'.heap[b]? = w.heap[b]?) (hs : w.heap.size ≤ w'.heap.size) (hge : w.heap.size ≤ ge) (hsb : sb' = sb ∨ w.heap.size ≤ sb') (hne : sb' ≠ ge) : Stk w' base sb' sc' ([] :: st) ((ge, ce) :: gs) D := by
  have hD : ∀ b, D b → w'.heap[b]? = w.heap[b]? := fun b hD => hb b (h.dead b hD).2.2 (h.dead b hD).1
  have hgr : ∀ b ∈ gs.map (·.1), w'.heap[b]? = w.heap[b]? := fun b hm => hb b (h.lvs.lt b hm).2 (fun e => h.one (e ▸ hm))
  have hlsb := (own_cap h.row).2.2
  refine ⟨by rw [hdrs]; exact hstk, ⟨⟨[], hrow, by unfold Fits; rfl⟩, h.lvs.mono (fun _ h => h) hD hgr⟩, ?_, ?_, ?_⟩
  · simp only [List.map_cons, List.mem_cons, not_or]
    refine ⟨hne, fun hm => ?_⟩
    rcases hsb with rfl | hsb
    · exact h.one hm
    · have := (h.lvs.lt sb' hm).2; omega
  · simp only [List.map_cons, List.nodup_cons]
    exact ⟨fun hm => by have := (h.lvs.lt ge hm).2; omega, h.two⟩
  · intro b hb'
    have := h.dead b hb'
    simp only [List.map_cons, List.mem_cons, not_or]
    refine ⟨?_, ⟨by omega, this.2.1⟩, by omega⟩
    rcases hsb with rfl | hsb
    · exact this.1
    · omega
/-- The one list that is left. -/
theorem Stk.last {sb sc g c : Nat} {cur : List T} (h : Stk w base sb sc [cur] [(g, c)] D) : cur.length ≤ c ∧ RdL w (fun b => D b ∨ b = g) (some ⟨g, 0, none⟩) cur := by
  obtain ⟨vs, ho, hf⟩ := h.lvs.1
  exact ⟨(own_cap ho).1, h.pop.2⟩
end
theorem own_four {w : World} {base g n c : Nat} {e : TypeId} {xs : List Value} {a0 a1 a2 a3 : Value} (h : w.ownsRow base e 4 (hd g (n + 1) c) (n + 1) (xs ++ [a0, a1, a2, a3])) : w.cell? ⟨g, n * 4, none⟩ = some a0 ∧ w.cell? ⟨g, n * 4 + 1, none⟩ = some a1 ∧ w.cell? ⟨g, n * 4 + 2, none⟩ = some a2 ∧ w.cell? ⟨g, n * 4 + 3, none⟩ = some a3 ∧
    w.frozen? ⟨g, n * 4, none⟩ = false ∧ w.frozen? ⟨g, n * 4 + 1, none⟩ = false ∧ w.frozen? ⟨g, n * 4 + 2, none⟩ = false ∧ w.frozen? ⟨g, n * 4 + 3, none⟩ = false := by
  have hl : xs.length = n * 4 := by have := h.1; simp at this; omega
  have hc : ∀ j, j < 4 → w.cell? ⟨g, n * 4 + j, none⟩ = [a0, a1, a2, a3][j]? := fun j hj => by
    rw [World.ownsRow.cellAt h (n * 4 + j) (by omega), List.getElem?_append_right (by omega)]
    rw [show n * 4 + j - xs.length = j by omega]
  exact ⟨hc 0 (by omega), hc 1 (by omega), hc 2 (by omega), hc 3 (by omega), World.ownsRow.frozenAt h _, World.ownsRow.frozenAt h _, World.ownsRow.frozenAt h _, World.ownsRow.frozenAt h _⟩
/-- Four cells of a row of trees, put in the place of others. -/
theorem own_put4 {w : World} {base g n c : Nat} {xs : List Value} {a0 a1 a2 a3 : Value} (x0 x1 x2 x3 : Value) (h : w.ownsRow base 144 4 (hd g (n + 1) c) (n + 1) (xs ++ [a0, a1, a2, a3])) :
    ((((w.setCell ⟨g, n * 4, none⟩ x0).setCell ⟨g, n * 4 + 1, none⟩ x1).setCell ⟨g, n * 4 + 2, none⟩ x2).setCell ⟨g, n * 4 + 3, none⟩ x3).ownsRow base 144 4 (hd g (n + 1) c) (n + 1) (xs ++ [x0, x1, x2, x3]) := by
  have hl : xs.length = n * 4 := by have := h.1; simp at this; omega
  have h4 := ((((h.stored (n * 4) x0).1.stored (n * 4 + 1) x1).1.stored (n * 4 + 2) x2).1.stored (n * 4 + 3) x3).1
  rw [← hl] at h4 ⊢
  simpa [List.set_append] using h4
end Go.Proofs.YtdipnhghdajplaaGreatDoor
namespace Go.Proofs.YtdipnhghdajplaaGreatDoor
open Go.RowKit
set_option linter.unusedSimpArgs false
set_option linter.unusedVariables false

inductive Tm where
  | node (op w a b : Int) (ks : List Tm)
/-- Files: count, width, zero; classes: kind, file; flags; the operands' classes. -/
structure Env where
  files : List (Int × Int × Int)
  classes : List (Int × Int)
  nflags : Nat
  args : List Int
/-- A number is a place of n. -/
def plB (x : Int) (n : Nat) : Bool := decide (0 ≤ x) && decide (x < n)
def wideI (w : Int) : Int := if 1 ≤ w ∧ w ≤ 128 then w else 0
def sharedI (a b : Int) : Int := if a = b then a else 0
def memB (w : Int) : Bool := decide (w = 8) || decide (w = 16) || decide (w = 32) || decide (w = 64)
def fileB (f : Int × Int × Int) : Bool := decide (1 ≤ f.1) && decide (f.1 ≤ 64) && decide (1 ≤ f.2.1) && decide (f.2.1 ≤ 64) && decide (-1 ≤ f.2.2) && decide (f.2.2 < f.1)
def kidsI (op : Int) : Int :=
  if 1 ≤ op ∧ op ≤ 17 then 2 else if op = 18 ∨ op = 19 ∨ op = 26 ∨ op = 28 ∨ op = 29 ∨ op = 30 then 1 else if op = 27 then 3 else if 20 ≤ op ∧ op ≤ 25 then 0 else -1
/-- The class of an operand, if both are there. -/
def clsO (E : Env) (x : Int) : Option (Int × Int) :=
  if 0 ≤ x then match E.args[x.toNat]? with
    | some c => if 0 ≤ c then E.classes[c.toNat]? else none
    | none => none
  else none
def fileO (E : Env) (x : Int) : Option (Int × Int × Int) := if 0 ≤ x then match E.files[x.toNat]? with
  | some f => if fileB f then some f else none
  | none => none
  else none
def regW (E : Env) (a b : Int) : Int := match fileO E a with
  | none => 0
  | some f => if clsO E b = some (1, a) then f.2.1 else if b < 0 ∧ -f.1 ≤ b then f.2.1 else 0
def leafW (E : Env) (op w a b : Int) : Int :=
  if op = 20 then wideI w
  else if op = 21 then regW E a b
  else if op = 22 then (match clsO E a with | some c => if c.1 = 1 then 0 else wideI w | none => 0)
  else if op = 23 ∨ op = 24 then 64
  else if op = 25 then (if plB a E.nflags then 1 else 0)
  else 0
def joinW (op w a b x y z : Int) : Int :=
  if op = 7 ∨ op = 8 ∨ op = 9 ∨ op = 18 ∨ op = 19 then x
  else if op = 14 ∨ op = 15 ∨ op = 16 then (if x = y then 1 else 0)
  else if op = 17 then wideI (x + y)
  else if op = 26 then (if x = 64 ∧ memB w then w else 0)
  else if op = 27 then (if x = 1 then sharedI y z else 0)
  else if op = 28 ∨ op = 29 then wideI w
  else if op = 30 then (if 0 ≤ b ∧ b ≤ a ∧ a < x then a - b + 1 else 0)
  else sharedI x y
mutual
/-- A term's width; 0: it isn't right. -/
def widT (E : Env) : Tm → Int
  | .node op w a b ks => if (ks.length : Int) = kidsI op then match widL E ks with
      | none => 0
      | some ws => if ks.length = 0 then leafW E op w a b else joinW op w a b (ws.getD 0 0) (ws.getD 1 0) (ws.getD 2 0)
    else 0
/-- The widths of all, if all are right. -/
def widL (E : Env) : List Tm → Option (List Int)
  | [] => some []
  | t :: r => if widT E t = 0 then none else match widL E r with
    | none => none
    | some ws => some (widT E t :: ws)
end
mutual
def TmL (w : World) : Option Addr → List Tm → Prop
  | _, [] => True
  | A, t :: r => ∃ b o, A = some ⟨b, o, none⟩ ∧ TmT w b o t ∧ TmL w (some ⟨b, o + 5, none⟩) r
def TmT (w : World) : Nat → Nat → Tm → Prop
  | b, o, .node op wd x y ks => ∃ A c, (ks.length ≤ c ∧ c ≤ maxLen) ∧ w.cell? ⟨b, o, none⟩ = some (.int .i64 op) ∧ w.cell? ⟨b, o + 1, none⟩ = some (.int .i64 wd) ∧ w.cell? ⟨b, o + 2, none⟩ = some (.int .i64 x) ∧
      w.cell? ⟨b, o + 3, none⟩ = some (.int .i64 y) ∧ w.cell? ⟨b, o + 4, none⟩ = some (.slice A ks.length c) ∧ TmL w A ks
end
mutual
theorem TmL.fr {w w' : World} (k : Fr w w') : ∀ {l : List Tm} {A : Option Addr}, TmL w A l → TmL w' A l
  | [], _, _ => by unfold TmL; trivial
  | t :: r, A, h => by
    unfold TmL at h ⊢
    obtain ⟨b, o, e, ht, hr⟩ := h
    exact ⟨b, o, e, TmT.fr k ht, TmL.fr k hr⟩
theorem TmT.fr {w w' : World} (k : Fr w w') : ∀ {t : Tm} {b o : Nat}, TmT w b o t → TmT w' b o t
  | .node op wd x y ks, b, o, h => by
    unfold TmT at h ⊢
    obtain ⟨A, c, hc, h0, h1, h2, h3, h4, hk⟩ := h
    exact ⟨A, c, hc, k.get h0, k.get h1, k.get h2, k.get h3, k.get h4, TmL.fr k hk⟩
end
theorem TmL.elem {w : World} : ∀ {l : List Tm} {A : Option Addr} (i : Nat) (hi : i < l.length), TmL w A l → ∃ b o, A = some ⟨b, o, none⟩ ∧ TmT w b (o + 5 * i) l[i]
  | t :: r, A, 0, _, h => by
    unfold TmL at h
    obtain ⟨b, o, e, ht, hr⟩ := h
    exact ⟨b, o, e, by simpa using ht⟩
  | t :: r, A, i + 1, hi, h => by
    unfold TmL at h
    obtain ⟨b, o, e, ht, hr⟩ := h
    obtain ⟨b', o', e', hx⟩ := TmL.elem (w := w) i (by simpa using hi) hr
    injection e' with e'; injection e' with e1 e2; subst e1 e2
    refine ⟨b, o, e, ?_⟩
    simp only [List.getElem_cons_succ]
    rwa [show o + 5 * (i + 1) = o + 5 + 5 * i by omega]
/-- A row of structs of n cells, each as f says of the place of its first cell. -/
def RowOf {α : Type} (f : World → Nat → Nat → α → Prop) (n : Nat) (w : World) (A : Option Addr) (l : List α) : Prop :=
  0 < l.length → ∃ b o, A = some ⟨b, o, none⟩ ∧ ∀ (i : Nat) (h : i < l.length), f w b (o + n * i) l[i]
def FileAt (w : World) (b o : Nat) (f : Int × Int × Int) : Prop := ∃ n, w.cell? ⟨b, o, none⟩ = some (.string n) ∧ w.cell? ⟨b, o + 1, none⟩ = some (.int .i64 f.1) ∧ w.cell? ⟨b, o + 2, none⟩ = some (.int .i64 f.2.1) ∧ w.cell? ⟨b, o + 3, none⟩ = some (.int .i64 f.2.2)
def ClassAt (w : World) (b o : Nat) (c : Int × Int) : Prop := ∃ n u v x y l k, w.cell? ⟨b, o, none⟩ = some (.string n) ∧ w.cell? ⟨b, o + 1, none⟩ = some (.int .i64 c.1) ∧ w.cell? ⟨b, o + 2, none⟩ = some (.int .i64 c.2) ∧
  w.cell? ⟨b, o + 3, none⟩ = some (.int .i64 u) ∧ w.cell? ⟨b, o + 4, none⟩ = some (.int .i64 v) ∧ w.cell? ⟨b, o + 5, none⟩ = some (.int .i64 x) ∧ w.cell? ⟨b, o + 6, none⟩ = some (.slice y l k)
def ArgAt (w : World) (b o : Nat) (c : Int) : Prop := ∃ n, w.cell? ⟨b, o, none⟩ = some n ∧ w.cell? ⟨b, o + 1, none⟩ = some (.int .i64 c)
theorem FileAt.fr {w w' : World} {b o : Nat} {f : Int × Int × Int} (h : FileAt w b o f) (k : Fr w w') : FileAt w' b o f := by
  obtain ⟨n, h0, h1, h2, h3⟩ := h; exact ⟨n, k.get h0, k.get h1, k.get h2, k.get h3⟩
theorem ClassAt.fr {w w' : World} {b o : Nat} {c : Int × Int} (h : ClassAt w b o c) (k : Fr w w') : ClassAt w' b o c := by
  obtain ⟨n, u, v, x, y, l, kk, h0, h1, h2, h3, h4, h5, h6⟩ := h; exact ⟨n, u, v, x, y, l, kk, k.get h0, k.get h1, k.get h2, k.get h3, k.get h4, k.get h5, k.get h6⟩
theorem ArgAt.fr {w w' : World} {b o : Nat} {c : Int} (h : ArgAt w b o c) (k : Fr w w') : ArgAt w' b o c := by
  obtain ⟨n, h0, h1⟩ := h; exact ⟨n, k.get h0, k.get h1⟩
theorem RowOf.fr {α : Type} {f : World → Nat → Nat → α → Prop} {n : Nat} {w w' : World} {A : Option Addr} {l : List α} (hf : ∀ b o x, f w b o x → f w' b o x) (h : RowOf f n w A l) : RowOf f n w' A l := fun hl => by
  obtain ⟨b, o, e, hx⟩ := h hl; exact ⟨b, o, e, fun i hi => hf _ _ _ (hx i hi)⟩
theorem RowOf.at {α : Type} {f : World → Nat → Nat → α → Prop} {n : Nat} {w : World} {A : Option Addr} {l : List α} (h : RowOf f n w A l) {i : Nat} (hi : i < l.length) : ∃ b o, A = some ⟨b, o, none⟩ ∧ f w b (o + n * i) l[i] := by
  obtain ⟨b, o, e, hx⟩ := h (by omega); exact ⟨b, o, e, hx i hi⟩
/-- The rows that a description's value names, and the operands' row, read as E. -/
structure EnvAt (E : Env) (w : World) (Fa Ca Aa : Option Addr) : Prop where
  files : RowOf FileAt 4 w Fa E.files
  classes : RowOf ClassAt 7 w Ca E.classes
  args : RowOf ArgAt 2 w Aa E.args
theorem EnvAt.fr {E : Env} {w w' : World} {Fa Ca Aa : Option Addr} (h : EnvAt E w Fa Ca Aa) (k : Fr w w') : EnvAt E w' Fa Ca Aa :=
  ⟨h.files.fr fun _ _ _ x => x.fr k, h.classes.fr fun _ _ _ x => x.fr k, h.args.fr fun _ _ _ x => x.fr k⟩
end Go.Proofs.YtdipnhghdajplaaGreatDoor
namespace Go.Proofs.YtdipnhghdajplaaGreatDoor
open Go.RowKit
set_option linter.unusedSimpArgs false
set_option linter.unusedVariables false

theorem fileO_bd {E : Env} {a : Int} {f : Int × Int × Int} (h : fileO E a = some f) : 1 ≤ f.2.1 ∧ f.2.1 ≤ 64 := by
  unfold fileO at h
  split at h
  · split at h
    · split at h
      · rename_i hf
        injection h with h; subst h
        simp only [fileB, Bool.and_eq_true, decide_eq_true_eq] at hf
        omega
      · cases h
    · cases h
  · cases h
theorem regW_bd (E : Env) (a b : Int) : 0 ≤ regW E a b ∧ regW E a b ≤ 128 := by
  unfold regW
  split
  · omega
  · rename_i f h
    have := fileO_bd h
    split
    · omega
    · split <;> omega
theorem wideI_bd (x : Int) : 0 ≤ wideI x ∧ wideI x ≤ 128 := by unfold wideI; split <;> omega
theorem leafW_bd (E : Env) (op w a b : Int) : 0 ≤ leafW E op w a b ∧ leafW E op w a b ≤ 128 := by
  have h1 := regW_bd E a b
  have h2 := wideI_bd w
  unfold leafW
  repeat' split
  all_goals omega
theorem joinW_bd (op w a b x y z : Int) (hx : 0 ≤ x ∧ x ≤ 128) (hy : 0 ≤ y ∧ y ≤ 128) : 0 ≤ joinW op w a b x y z ∧ joinW op w a b x y z ≤ 128 := by
  have h2 := wideI_bd w
  have h3 := wideI_bd (x + y)
  unfold joinW sharedI
  repeat' split
  all_goals (try simp only [memB, Bool.or_eq_true, decide_eq_true_eq] at *)
  all_goals omega
mutual
theorem widT_bd (E : Env) : ∀ t : Tm, 0 ≤ widT E t ∧ widT E t ≤ 128
  | .node op w a b ks => by
    have h := widL_bd E ks
    unfold widT
    split
    · split
      · omega
      · rename_i ws hws
        have hb : ∀ k, 0 ≤ ws.getD k 0 ∧ ws.getD k 0 ≤ 128 := fun k => by
          rw [List.getD_eq_getElem?_getD]
          cases hk : ws[k]? with
          | none => simp
          | some x => exact h ws hws x (List.mem_of_getElem? hk)
        split
        · exact leafW_bd E op w a b
        · exact joinW_bd op w a b _ _ _ (hb 0) (hb 1)
    · omega
theorem widL_bd (E : Env) : ∀ (l : List Tm) (ws : List Int), widL E l = some ws → ∀ x ∈ ws, 0 ≤ x ∧ x ≤ 128
  | [], ws, h, x, hx => by
    unfold widL at h; injection h with h; subst h; cases hx
  | t :: r, ws, h, x, hx => by
    unfold widL at h
    split at h
    · cases h
    · split at h
      · cases h
      · rename_i vs hvs
        injection h with h; subst h
        rcases List.mem_cons.1 hx with rfl | hx
        · exact widT_bd E t
        · exact widL_bd E r vs hvs x hx
end
theorem widL_snoc {E : Env} : ∀ {l : List Tm} {ws : List Int} (t : Tm), widL E l = some ws → widT E t ≠ 0 → widL E (l ++ [t]) = some (ws ++ [widT E t])
  | [], ws, t, h, ht => by
    unfold widL at h; injection h with h; subst h
    simp [widL, ht]
  | u :: r, ws, t, h, ht => by
    unfold widL at h
    split at h
    · cases h
    · rename_i hu
      split at h
      · cases h
      · rename_i vs hvs
        injection h with h; subst h
        simp only [List.cons_append]
        unfold widL
        rw [if_neg hu, widL_snoc t hvs ht]
theorem widL_len {E : Env} : ∀ {l : List Tm} {ws : List Int}, widL E l = some ws → ws.length = l.length
  | [], ws, h => by unfold widL at h; injection h with h; subst h; rfl
  | u :: r, ws, h => by
    unfold widL at h
    split at h
    · cases h
    · split at h
      · cases h
      · rename_i vs hvs
        injection h with h; subst h
        simp [widL_len hvs]
theorem widL_zero {E : Env} : ∀ {l : List Tm} {t : Tm}, t ∈ l → widT E t = 0 → widL E l = none
  | u :: r, t, h, ht => by
    unfold widL
    rcases List.mem_cons.1 h with rfl | h
    · rw [if_pos ht]
    · split
      · rfl
      · rw [widL_zero h ht]
theorem kids_zero {op : Int} (h : kidsI op = 0) : 20 ≤ op ∧ op ≤ 25 := by
  unfold kidsI at h
  repeat' split at h
  all_goals first | omega | (simp at h)
theorem kids_le {op : Int} : kidsI op ≤ 3 := by
  unfold kidsI
  repeat' split
  all_goals omega
end Go.Proofs.YtdipnhghdajplaaGreatDoor
