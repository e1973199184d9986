/- The document's Parse: what its loop keeps. -/
import Derived.Test.YtdipnhghdajplaaGreatDoorP09
import Derived.Test.YtdipnhghdajplaaGreatDoorP00
import Derived.Test.YtdipnhghdajplaaGreatDoorP10
namespace Go.Proofs.YtdipnhghdajplaaGreatDoor
open Go.RowKit
set_option linter.unusedSimpArgs false
set_option linter.unusedVariables false
def RdK (w : World) (A : Option Addr) (ts : List Tk) : Prop := ∀ (i : Nat) (h : i < ts.length), ∃ g, A = some ⟨g, 0, none⟩ ∧ g < w.heap.size ∧ w.cell? ⟨g, i * 5, none⟩ = some (.int .i64 (ts[i].pos : Int)) ∧ w.cell? ⟨g, i * 5 + 1, none⟩ = some (.int .i64 ts[i].kind) ∧
 w.cell? ⟨g, i * 5 + 2, none⟩ = some (.int .i64 ts[i].num) ∧ w.cell? ⟨g, i * 5 + 3, none⟩ = some (.int .i64 (ts[i].wrong : Int)) ∧ w.cell? ⟨g, i * 5 + 4, none⟩ = some (.string ts[i].word)
theorem RdK.keep {w w' : World} {A : Option Addr} {ts : List Tk} (h : RdK w A ts) (k : ∀ a, A = some a → w'.heap[a.block]? = w.heap[a.block]?) (hs : w.heap.size ≤ w'.heap.size) : RdK w' A ts := by
 intro i hi
 obtain ⟨g, rfl, hg, c0, c1, c2, c3, c4⟩ := h i hi
 have e := k _ rfl
 exact ⟨g, rfl, by omega, (cell_of_heap e).trans c0, (cell_of_heap e).trans c1, (cell_of_heap e).trans c2, (cell_of_heap e).trans c3, (cell_of_heap e).trans c4⟩
theorem Tok.read {w : World} {base : Nat} {v : Value} {ts : List Tk} (h : Tok w base v ts) : ∃ A c, v = .slice A ts.length c ∧ RdK w A ts ∧ ∀ a, A = some a → base ≤ a.block ∧ a.block < w.heap.size := by
 have h0 := h
 rcases h.2 with ⟨hv, hn⟩ | ⟨g, cap, cur, hv, _, _, _⟩
 · have hl : ts = [] := List.eq_nil_of_length_eq_zero hn
   subst hv hl
   exact ⟨none, 0, rfl, fun i h => absurd h (by simp), fun a h => by cases h⟩
 · subst hv
   refine ⟨_, cap, rfl, fun i hi => ?_, fun a ha => by injection ha with ha; subst ha; exact Tok.lt h0 g rfl⟩
   have hc : ∀ j, j < 5 → w.cell? ⟨g, i * 5 + j, none⟩ = (tkA ts[i]).toList[j]? := fun j hj => by
     rw [World.ownsRow.cellAt h0 (i * 5 + j) (by omega), tkC_at ts i j hi hj]
   exact ⟨g, rfl, (Tok.lt h0 g rfl).2, hc 0 (by omega), hc 1 (by omega), hc 2 (by omega), hc 3 (by omega), hc 4 (by omega)⟩
def sumL : List (List T) → Nat
 | [] => 0
 | l :: r => l.length + sumL r
structure RelPz (s : ByteArray) (w : World) (A : Option Addr) (ts : List Tk) (wr : World) (i n sb sc : Nat) (st : List (List T)) (gs : List (Nat × Nat)) (D : Nat → Prop) : Prop where
 i_le : i ≤ ts.length
 stk : Stk wr w.heap.size sb sc st gs D
 tok : ∀ a, A = some a → D a.block
 rd : RdK wr A ts
 fr : Fr w wr
 low : ∀ b, D b → w.heap.size ≤ b
 ne : st ≠ []
 sum : sumL st + st.length ≤ n + 1
 n_le : n ≤ 65536
 st_le : st.length ≤ 33
 ends : pgo s.size (ts.drop i) st n = run s.data.toList 0 [[]] 0
def RelP (s : ByteArray) (w : World) (A : Option Addr) (ts : List Tk) (sv nv iv : Value) (wr : World) : Prop :=
 ∃ (i n sb sc : Nat) (st : List (List T)) (gs : List (Nat × Nat)) (D : Nat → Prop), iv = .int .i64 (i : Int) ∧ nv = .int .i64 (n : Int) ∧ sv = hd sb st.length sc ∧ RelPz s w A ts wr i n sb sc st gs D
section
variable {s : ByteArray} {w wr w' : World} {A : Option Addr} {ts : List Tk} {i n sb sc : Nat} {st : List (List T)} {gs : List (Nat × Nat)} {D : Nat → Prop}
theorem RelPz.next (h : RelPz s w A ts wr i n sb sc st gs D) (hi : i < ts.length) : pgo s.size (ts[i] :: ts.drop (i + 1)) st n = run s.data.toList 0 [[]] 0 := by
 rw [← List.drop_eq_getElem_cons hi]; exact h.ends
theorem pgo_cons (z : Nat) (t : Tk) (r : List Tk) (st : List (List T)) (k : Nat) : pgo z (t :: r) st k = (if t.kind = 6 then .err t.wrong 31
   else if t.kind = 5 then
     match st with
     | cur :: par :: rest => pgo z r ((par ++ [.node 4 ⟨#[]⟩ 0 cur]) :: rest) k
     | _ => .err t.pos 31
   else if 65536 < k + 1 ∨ (t.kind = 4 ∧ 32 < st.length) then .err t.pos 33
   else if t.kind = 4 then pgo z r ([] :: st) (k + 1)
   else match st with
     | cur :: rest => pgo z r ((cur ++ [.node t.kind t.word t.num []]) :: rest) (k + 1)
     | [] => .err t.pos 0) := by
 conv => lhs; unfold pgo
 rfl
theorem pgo6 {z : Nat} {t : Tk} {r : List Tk} {st : List (List T)} {n : Nat} (h : t.kind = 6) : pgo z (t :: r) st n = .err t.wrong 31 := by rw [pgo_cons, if_pos h]
theorem pgo5_top {z : Nat} {t : Tk} {r : List Tk} {cur : List T} {n : Nat} (h : t.kind = 5) : pgo z (t :: r) [cur] n = .err t.pos 31 := by rw [pgo_cons, if_neg (by omega), if_pos h]
theorem pgo5 {z : Nat} {t : Tk} {r : List Tk} {cur par : List T} {rest : List (List T)} {n : Nat} (h : t.kind = 5) : pgo z (t :: r) (cur :: par :: rest) n = pgo z r ((par ++ [.node 4 ⟨#[]⟩ 0 cur]) :: rest) n := by rw [pgo_cons, if_neg (by omega), if_pos h]
theorem pgo_many {z : Nat} {t : Tk} {r : List Tk} {st : List (List T)} {n : Nat} (h6 : t.kind ≠ 6) (h5 : t.kind ≠ 5) (h : 65536 < n + 1 ∨ (t.kind = 4 ∧ 32 < st.length)) : pgo z (t :: r) st n = .err t.pos 33 := by rw [pgo_cons, if_neg h6, if_neg h5, if_pos h]
theorem pgo4 {z : Nat} {t : Tk} {r : List Tk} {st : List (List T)} {n : Nat} (h4 : t.kind = 4) (h : ¬ (65536 < n + 1 ∨ (t.kind = 4 ∧ 32 < st.length))) : pgo z (t :: r) st n = pgo z r ([] :: st) (n + 1) := by rw [pgo_cons, if_neg (by omega), if_neg (by omega), if_neg h, if_pos h4]
theorem pgo_leaf {z : Nat} {t : Tk} {r : List Tk} {cur : List T} {rest : List (List T)} {n : Nat} (h6 : t.kind ≠ 6) (h5 : t.kind ≠ 5) (h4 : t.kind ≠ 4) (h : ¬ 65536 < n + 1) : pgo z (t :: r) (cur :: rest) n = pgo z r ((cur ++ [.node t.kind t.word t.num []]) :: rest) (n + 1) := by
 rw [pgo_cons, if_neg h6, if_neg h5, if_neg (by intro h'; rcases h' with h' | h'; exact h h'; exact h4 h'.1), if_neg h4]
theorem Stk.start (w : World) : Stk ((w.alloc (.cells #[] 144)).alloc (.cells #[hd w.heap.size 0 0] 138)) w.heap.size (w.heap.size + 1) 1 [[]] [(w.heap.size, 0)] (fun _ => False) := by
 have h0 : ((w.alloc (.cells #[] 144)).alloc (.cells #[hd w.heap.size 0 0] 138)).heap[w.heap.size]? = some (.cells #[] 144 (0, 0)) := by
   rw [((Fr.refl (w.alloc (.cells #[] 144))).alloc (.cells #[hd w.heap.size 0 0] 138)).block w.heap.size (by simp)]
   exact heap_alloc_new w _
 have h1 := blkn (w.alloc (.cells #[] 144)) (w.heap.size + 1) (by simp) #[hd w.heap.size 0 0] 138
 refine ⟨⟨rfl, .inr ⟨w.heap.size + 1, 1, #[hd w.heap.size 0 0], rfl, by omega, h1, Nat.le_refl _, by unfold maxLen; omega, rfl, rfl⟩⟩, ⟨⟨[], ⟨rfl, .inr ⟨w.heap.size, 0, #[], rfl, Nat.le_refl _, h0, Nat.le_refl _, Nat.zero_le _, rfl, rfl⟩⟩, by unfold Fits; rfl⟩, trivial⟩, by simp, by simp, fun b h => h.elim⟩
theorem RelPz.opn {o : Obj} {w7 : World} {gg cap : Nat} (h : RelPz s w A ts wr i n sb sc st gs D) (hg7 : (((wr.alloc o).alloc (.cells #[] 144)).alloc (.cells #[hd (wr.heap.size + 1) 0 0] 138)).grownBy w7 (some sb))
   (ho7 : w7.ownsRow w.heap.size 138 1 (hd gg (st.length + 1) cap) (st.length + 1) (hdrs st gs ++ [hd (wr.heap.size + 1) 0 0])) (hat : sb = gg ∨ gg = wr.heap.size + 3) (hi : i + 1 ≤ ts.length) (hn : n + 1 ≤ 65536) (hst : st.length + 1 ≤ 33)
   (hrun : pgo s.size (ts.drop (i + 1)) ([] :: st) (n + 1) = run s.data.toList 0 [[]] 0) : RelPz s w A ts w7 (i + 1) (n + 1) gg cap ([] :: st) ((wr.heap.size + 1, 0) :: gs) D := by
 have hsz := hg7.size
 simp at hsz
 have hsb := (own_cap h.stk.row).2.2
 have hkeep : ∀ b, b < wr.heap.size → b ≠ sb → w7.heap[b]? = wr.heap[b]? := fun b hb hn => by
   rw [hg7.block b (by simp; omega) (fun e => hn (by injection e)), ((((Fr.refl wr).alloc o).alloc _).alloc _).block b hb]
 have hge : w7.heap[wr.heap.size + 1]? = some (.cells #[] 144 (0, 0)) := by
   rw [hg7.block _ (by simp <;> omega) (fun e => by injection e with e; omega), ((Fr.refl ((wr.alloc o).alloc (.cells #[] 144))).alloc _).block _ (by simp)]
   exact blkn (wr.alloc o) (wr.heap.size + 1) (by simp) #[] 144
 have hfr : Fr w w7 := Below.grown (((h.fr.alloc o).alloc _).alloc _) hg7 (by have := h.fr.size; simp; omega) (fun k hk => by injection hk with hk; subst hk; exact (own_cap h.stk.row).2.1)
 have hcap := own_cap ho7
 have hdd := h.stk.dead
 refine ⟨hi, h.stk.push ⟨rfl, .inr ⟨wr.heap.size + 1, 0, #[], rfl, by have := h.fr.size; omega, hge, Nat.le_refl _, Nat.zero_le _, rfl, rfl⟩⟩ ho7 hkeep (by omega) (by omega) (by omega) (by omega), h.tok, h.rd.keep (fun a ha => ?_) (by omega), hfr, h.low, by simp, ?_, hn, by simpa using hst, hrun⟩
 · have := hdd _ (h.tok a ha)
   exact hkeep _ this.2.2 this.1
 · have := h.sum
   simp [sumL] at *
   omega
theorem RelPz.leaf {w8 : World} {cur : List T} {rest : List (List T)} {g c g' c' : Nat} {gr : List (Nat × Nat)} {vs : List Value} {k m : Int} {x : ByteArray} (h : RelPz s w A ts wr i n sb sc (cur :: rest) ((g, c) :: gr) D) (hf : Fits wr D cur vs)
   (hrow : w8.ownsRow w.heap.size 144 4 (hd g' (cur.length + 1) c') (cur.length + 1) (vs ++ [.int .i64 k, .string x, .int .i64 m, .slice none 0 0]))
   (hstk : w8.ownsRow w.heap.size 138 1 (hd sb (rest.length + 1) sc) (rest.length + 1) (hdrs rest gr ++ [hd g' (cur.length + 1) c']))
   (hb : ∀ b, b < wr.heap.size → b ≠ g → b ≠ sb → w8.heap[b]? = wr.heap[b]?) (hs : wr.heap.size ≤ w8.heap.size) (hg : g' = g ∨ wr.heap.size ≤ g') (hfr : Fr w w8) (hi : i + 1 ≤ ts.length) (hn : n + 1 ≤ 65536)
   (hrun : pgo s.size (ts.drop (i + 1)) ((cur ++ [.node k x m []]) :: rest) (n + 1) = run s.data.toList 0 [[]] 0) : RelPz s w A ts w8 (i + 1) (n + 1) sb sc ((cur ++ [.node k x m []]) :: rest) ((g', c') :: gr) D := by
 have hdd := h.stk.dead
 refine ⟨hi, h.stk.app hf (ks := []) (A := none) (ca := 0) (Nat.le_refl _) (by unfold RdL; trivial) hrow hstk hb hs hg, h.tok, h.rd.keep (fun a ha => ?_) hs, hfr, h.low, by simp, ?_, hn, by have := h.st_le; simpa using this, hrun⟩
 · have := hdd _ (h.tok a ha)
   simp only [List.map_cons, List.mem_cons, not_or] at this
   exact hb _ this.2.2 this.2.1.1 this.1
 · have := h.sum
   simp [sumL] at *
   omega
theorem RelPz.cls {w8 : World} {cur par : List T} {rest : List (List T)} {g c g1 c1 g' c' : Nat} {gr : List (Nat × Nat)} {vs : List Value} (h : RelPz s w A ts wr i n sb sc (cur :: par :: rest) ((g, c) :: (g1, c1) :: gr) D) (hf : Fits wr D par vs)
   (hrow : w8.ownsRow w.heap.size 144 4 (hd g' (par.length + 1) c') (par.length + 1) (vs ++ [.int .i64 4, .string ⟨#[]⟩, .int .i64 0, hd g cur.length c]))
   (hstk : w8.ownsRow w.heap.size 138 1 (hd sb (rest.length + 1) sc) (rest.length + 1) (hdrs rest gr ++ [hd g' (par.length + 1) c']))
   (hb : ∀ b, b < wr.heap.size → b ≠ g1 → b ≠ sb → w8.heap[b]? = wr.heap[b]?) (hs : wr.heap.size ≤ w8.heap.size) (hg : g' = g1 ∨ wr.heap.size ≤ g') (hfr : Fr w w8) (hi : i + 1 ≤ ts.length)
   (hrun : pgo s.size (ts.drop (i + 1)) ((par ++ [.node 4 ⟨#[]⟩ 0 cur]) :: rest) n = run s.data.toList 0 [[]] 0) : RelPz s w A ts w8 (i + 1) n sb sc ((par ++ [.node 4 ⟨#[]⟩ 0 cur]) :: rest) ((g', c') :: gr) (fun b => D b ∨ b = g) := by
 have hp := h.stk.pop
 have hdd := hp.1.dead
 obtain ⟨vc, hoc, _⟩ := h.stk.lvs.1
 refine ⟨hi, hp.1.app (hf.mono (fun _ h => .inl h) (fun _ _ => rfl)) (own_cap hoc).1 hp.2 hrow hstk hb hs hg, fun a ha => .inl (h.tok a ha), h.rd.keep (fun a ha => ?_) hs, hfr, ?_, by simp, ?_, h.n_le, by have := h.st_le; simp at this ⊢; omega, hrun⟩
 · have := hdd _ (.inl (h.tok a ha))
   simp only [List.map_cons, List.mem_cons, not_or] at this
   exact hb _ this.2.2 this.2.1.1 this.1
 · rintro b (hb | rfl)
   · exact h.low b hb
   · exact (own_cap hoc).2.1
 · have := h.sum
   simp [sumL] at *
   omega
theorem ps_err {e : Ending} {a : Nat} {er : Int} (hf : Fr w w') (he : e = .returned (.tuple #[.slice none 0 0, .int .i64 (a : Int), .int .i64 er])) (h : run s.data.toList 0 [[]] 0 = .err a er) : PsPost s w e w' := ⟨hf, .inl ⟨a, er, he, h⟩⟩
end
abbrev put4 (w : World) (g n : Nat) (x0 x1 x2 x3 : Value) : World := ((((w.setCell ⟨g, n * 4, none⟩ x0).setCell ⟨g, n * 4 + 1, none⟩ x1).setCell ⟨g, n * 4 + 2, none⟩ x2).setCell ⟨g, n * 4 + 3, none⟩ x3)
theorem heap_put4 (w : World) (g n b : Nat) (hb : b ≠ g) (x0 x1 x2 x3 : Value) : (put4 w g n x0 x1 x2 x3).heap[b]? = w.heap[b]? := by
 unfold put4
 rw [Below.heap_setCell _ _ _ _ hb, Below.heap_setCell _ _ _ _ hb, Below.heap_setCell _ _ _ _ hb, Below.heap_setCell _ _ _ _ hb]
theorem Fr.put4 {W w : World} (h : Fr W w) {g : Nat} (hg : W.heap.size ≤ g) (n : Nat) (x0 x1 x2 x3 : Value) : Fr W (put4 w g n x0 x1 x2 x3) := ((((h.set (p := ⟨g, _, none⟩) hg x0).set (p := ⟨g, _, none⟩) hg x1).set (p := ⟨g, _, none⟩) hg x2).set (p := ⟨g, _, none⟩) hg x3)
structure EndA (w wr : World) (sb sc k : Nat) (hs : List Value) (g gg n cap : Nat) (xs : List Value) (w8 : World) : Prop where
 row : w8.ownsRow w.heap.size 144 4 (hd gg (n + 1) cap) (n + 1) xs
 stk : w8.ownsRow w.heap.size 138 1 (hd sb (k + 1) sc) (k + 1) (hs ++ [hd gg (n + 1) cap])
 blk : ∀ b, b < wr.heap.size → b ≠ g → b ≠ sb → w8.heap[b]? = wr.heap[b]?
 size : wr.heap.size ≤ w8.heap.size
 gg : gg = g ∨ wr.heap.size ≤ gg
 fr : Fr w w8
theorem stk_set {w wr w7 : World} {base sb sc k : Nat} {hs : List Value} {old y : Value} (hstk : wr.ownsRow base 138 1 (hd sb (k + 1) sc) (k + 1) (hs ++ [old])) (hk : w7.heap[sb]? = wr.heap[sb]?) : (w7.setCell ⟨sb, k, none⟩ y).ownsRow base 138 1 (hd sb (k + 1) sc) (k + 1) (hs ++ [y]) := by
 have hl : hs.length = k := by have := hstk.1; simp at this; omega
 have h := ((own_heap hstk hk).stored k y).1
 rw [← hl] at h ⊢
 simpa [List.set_append] using h
theorem end_one {w wr w7 : World} {sb sc k g gg n cap : Nat} {hs xs : List Value} {old : Value} (hrow : w7.ownsRow w.heap.size 144 4 (hd gg (n + 1) cap) (n + 1) xs) (hstk : wr.ownsRow w.heap.size 138 1 (hd sb (k + 1) sc) (k + 1) (hs ++ [old]))
   (hk : ∀ b, b < wr.heap.size → b ≠ g → w7.heap[b]? = wr.heap[b]?) (hs7 : wr.heap.size ≤ w7.heap.size) (hfr : Fr w w7) (hne : gg ≠ sb) (hgs : g ≠ sb) (hgg : gg = g ∨ wr.heap.size ≤ gg) :
   EndA w wr sb sc k hs g gg n cap xs (w7.setCell ⟨sb, k, none⟩ (hd gg (n + 1) cap)) := by
 have hsb := own_cap hstk
 refine ⟨own_heap hrow (Below.heap_setCell _ _ _ _ hne), stk_set (w := w) hstk (hk sb hsb.2.2 (fun e => hgs e.symm)), fun b h1 h2 h3 => (Below.heap_setCell _ _ _ _ h3).trans (hk b h1 h2), by simpa using hs7, hgg, hfr.set (p := ⟨sb, k, none⟩) hsb.2.1 _⟩
theorem end_two {w wr w7 : World} {sb sc k g gg n cap : Nat} {hs vs : List Value} {old z0 z1 z2 z3 : Value} (x0 x1 x2 x3 : Value) (hrow : w7.ownsRow w.heap.size 144 4 (hd gg (n + 1) cap) (n + 1) (vs ++ [z0, z1, z2, z3])) (hstk : wr.ownsRow w.heap.size 138 1 (hd sb (k + 1) sc) (k + 1) (hs ++ [old]))
   (hk : ∀ b, b < wr.heap.size → b ≠ g → w7.heap[b]? = wr.heap[b]?) (hs7 : wr.heap.size ≤ w7.heap.size) (hfr : Fr w w7) (hne : gg ≠ sb) (hgs : g ≠ sb) (hgg : gg = g ∨ wr.heap.size ≤ gg) :
   EndA w wr sb sc k hs g gg n cap (vs ++ [x0, x1, x2, x3]) ((put4 w7 gg n x0 x1 x2 x3).setCell ⟨sb, k, none⟩ (hd gg (n + 1) cap)) ∧ EndA w wr sb sc k hs g gg n cap (vs ++ [x0, x1, x2, x3]) (put4 (w7.setCell ⟨sb, k, none⟩ (hd gg (n + 1) cap)) gg n x0 x1 x2 x3) := by
 have hlow := (own_cap hrow).2.1
 have hg7 : ∀ b, b < wr.heap.size → b ≠ g → b ≠ gg := fun b h1 h2 e => by rcases hgg with h | h <;> omega
 constructor
 · refine end_one (own_put4 x0 x1 x2 x3 hrow) hstk (fun b h1 h2 => (heap_put4 _ _ _ _ (hg7 b h1 h2) _ _ _ _).trans (hk b h1 h2)) (by simpa using hs7) (hfr.put4 hlow _ _ _ _ _) hne hgs hgg
 · have h := end_one hrow hstk hk hs7 hfr hne hgs hgg
   refine ⟨own_put4 x0 x1 x2 x3 h.row, own_heap h.stk (heap_put4 _ _ _ _ hne.symm _ _ _ _), fun b h1 h2 h3 => (heap_put4 _ _ _ _ (hg7 b h1 h2) _ _ _ _).trans (h.blk b h1 h2 h3), by have := h.size; simpa using this, hgg, h.fr.put4 hlow _ _ _ _ _⟩
end Go.Proofs.YtdipnhghdajplaaGreatDoor
