/- Rows that grow, of things that have memory of their own: what another append leaves of them. Package codec's New: the two regions that draw: a class, a form is appended. Package codec: what stands among others; excepted values. FitsU and FitsS of package bvec, as package codec calls them. -/
import Derived.Test.YtdipnhghdajplaaGreatDoorP36
import Derived.Test.YtdipnhghdajplaaGreatDoorP29
namespace Go.Proofs.YtdipnhghdajplaaGreatDoor
open Go.RowKit
set_option linter.unusedSimpArgs false
set_option linter.unusedVariables false

section
variable {α : Type} {F : World → List Value → α → Prop} {t : TypeId} {k base : Nat}
/-- What is known of a thing by its cells, in every world that keeps certain blocks, none of them the row's own. -/
def PartK (F : World → List Value → α → Prop) (base : Nat) (wr : World) (sv : Value) (cs : List Value) (x : α) : Prop :=
  ∃ lo hi : Nat, base ≤ lo ∧ hi ≤ wr.heap.size ∧ (∀ g, sv.ownBlock = some g → g < lo ∨ hi ≤ g) ∧ ∀ w'' : World, (∀ b, lo ≤ b → b < hi → w''.heap[b]? = wr.heap[b]?) → F w'' cs x
structure GRow (F : World → List Value → α → Prop) (t : TypeId) (k base : Nat) (wr : World) (sv : Value) (css : List (List Value)) (l : List α) : Prop where
  row : wr.ownsRow base t k sv css.length css.flatten
  len : l.length = css.length
  all : ∀ (i : Nat) (cs : List Value) (x : α), css[i]? = some cs → l[i]? = some x → cs.length = k ∧ PartK F base wr sv cs x
theorem GRow.nil (wr : World) : GRow F t k base wr (.slice none 0 0) [] [] := ⟨World.ownsRow_nil _ _ _ _, rfl, by simp⟩
theorem PartK.fr {wr w' : World} {sv : Value} {cs : List Value} {x : α} (h : PartK F base wr sv cs x) (q : Fr wr w') : PartK F base w' sv cs x := by
  obtain ⟨lo, hi, h1, h2, h3, h4⟩ := h
  exact ⟨lo, hi, h1, Nat.le_trans h2 q.size, h3, fun w'' hk => h4 w'' fun b hb1 hb2 => (hk b hb1 hb2).trans (Below.block q b (by omega))⟩
theorem GRow.fr {wr w' : World} {sv : Value} {css : List (List Value)} {l : List α} (h : GRow F t k base wr sv css l) (q : Fr wr w') : GRow F t k base w' sv css l :=
  ⟨ownsRow_fr h.row q, h.len, fun i cs x h1 h2 => ⟨(h.all i cs x h1 h2).1, (h.all i cs x h1 h2).2.fr q⟩⟩
theorem PartK.next {W w' : World} {sv sv' v : Value} {cs : List Value} {x : α} {lb o : Nat} (h : PartK F base W sv cs x) (hg : W.grownBy w' sv.ownBlock) (hn : sv'.ownBlock = sv.ownBlock ∨ sv'.ownBlock = some W.heap.size) (hlb : lb < base) : PartK F base (w'.setCell ⟨lb, o, none⟩ v) sv' cs x := by
  obtain ⟨lo, hi, h1, h2, h3, h4⟩ := h
  have hz := hg.size
  refine ⟨lo, hi, h1, by simp; omega, fun g hgo => ?_, fun w'' hk => h4 w'' fun b hb1 hb2 => ?_⟩
  · rcases hn with hn | hn
    · exact h3 g (hn.symm.trans hgo)
    · rw [hn] at hgo; injection hgo with hgo; omega
  · refine (hk b hb1 hb2).trans ((Below.heap_setCell w' ⟨lb, o, none⟩ v b (by simp only; omega)).trans (World.grownBy.block hg b (by omega) fun e => ?_))
    rcases h3 b e.symm with h5 | h5 <;> omega
/-- Another is appended, and the row's slice is stored. -/
theorem GRow.next {wr W w' : World} {sv sv' : Value} {css : List (List Value)} {l : List α} {cs : List Value} {x : α} {lb o : Nat} (h : GRow F t k base wr sv css l) (q : Fr wr W) (hk : cs.length = k) (hp : PartK F base W sv cs x)
    (hg : GrewK W base t k sv (css.length + 1) (css.flatten ++ cs) sv' w') (hlb : lb < base) : GRow F t k base (w'.setCell ⟨lb, o, none⟩ sv') sv' (css ++ [cs]) (l ++ [x]) := by
  have hlen : (css ++ [cs]).length = css.length + 1 := by simp
  refine ⟨?_, by simp [h.len], fun i cs' x' h1 h2 => ?_⟩
  · rw [hlen, List.flatten_append, List.flatten_cons, List.flatten_nil, List.append_nil]
    refine hg.1.kept (row := some lb) ⟨rfl, rfl, rfl, by simp, fun k _ hn => Below.heap_setCell w' ⟨lb, o, none⟩ _ k (fun e => hn (congrArg some e))⟩ (.inr fun e => ?_)
    have := (World.ownsRow.lt hg.1 lb e).1
    omega
  · rcases Nat.lt_or_ge i css.length with hi | hi
    · rw [List.getElem?_append_left hi] at h1
      rw [List.getElem?_append_left (by rw [h.len]; exact hi)] at h2
      obtain ⟨h3, h4⟩ := h.all i cs' x' h1 h2
      exact ⟨h3, (h4.fr q).next hg.2.1 hg.2.2 hlb⟩
    · have hi2 := (List.getElem?_eq_some_iff.1 h1).1
      obtain rfl : i = css.length := by rw [hlen] at hi2; omega
      rw [List.getElem?_append_right (Nat.le_refl _), Nat.sub_self] at h1
      rw [List.getElem?_append_right (by rw [h.len]; exact Nat.le_refl _), h.len, Nat.sub_self] at h2
      obtain rfl : cs = cs' := by simpa using h1
      obtain rfl : x = x' := by simpa using h2
      exact ⟨hk, hp.next hg.2.1 hg.2.2 hlb⟩
theorem flat_get {k : Nat} : ∀ (css : List (List Value)) (i j : Nat) (cs : List Value) (v : Value), (∀ c ∈ css, c.length = k) → css[i]? = some cs → cs[j]? = some v → css.flatten[i * k + j]? = some v
  | [], i, j, cs, v, _, h, _ => by simp at h
  | a :: r, 0, j, cs, v, hl, h, hj => by
    obtain rfl : a = cs := by simpa using h
    have : j < a.length := (List.getElem?_eq_some_iff.1 hj).1
    rw [List.flatten_cons, Nat.zero_mul, Nat.zero_add, List.getElem?_append_left this]; exact hj
  | a :: r, i + 1, j, cs, v, hl, h, hj => by
    have ha := hl a (by simp)
    rw [List.flatten_cons, List.getElem?_append_right (by rw [ha, Nat.succ_mul]; omega), ha, show (i + 1) * k + j - k = i * k + j by rw [Nat.succ_mul]; omega]
    exact flat_get r i j cs v (fun c hc => hl c (by simp [hc])) (by simpa using h) hj
/-- The row, in every world that keeps the blocks from base on. -/
theorem GRow.done {wr : World} {sv : Value} {css : List (List Value)} {l : List α} (h : GRow F t k base wr sv css l) {f : World → Nat → Nat → α → Prop}
    (hf : ∀ (w'' : World) (b o : Nat) (cs : List Value) (x : α), F w'' cs x → (∀ (j : Nat) (v : Value), cs[j]? = some v → w''.cell? ⟨b, o + j, none⟩ = some v) → f w'' b o x) :
    ∃ A c, sv = .slice A l.length c ∧ ∀ w'' : World, (∀ b, base ≤ b → b < wr.heap.size → w''.heap[b]? = wr.heap[b]?) → RowOf f k w'' A l := by
  rcases h.row.2 with ⟨rfl, hn⟩ | ⟨g, cap, cur, rfl, hb, hg, _, _, hs, ht⟩
  · exact ⟨none, 0, by rw [h.len, hn], fun w'' _ h0 => by rw [h.len, hn] at h0; omega⟩
  · refine ⟨some ⟨g, 0, none⟩, cap, by rw [h.len], fun w'' hk _ => ⟨g, 0, rfl, fun i hi => ?_⟩⟩
    have hi2 : i < css.length := by rw [← h.len]; exact hi
    have hlt : g < wr.heap.size := (Array.getElem?_eq_some_iff.1 hg).1
    have hg' := (hk g hb hlt).trans hg
    obtain ⟨h1, lo, hh, h2, h3, _, h4⟩ := h.all i css[i] l[i] (List.getElem?_eq_getElem hi2) (List.getElem?_eq_getElem hi)
    refine hf w'' g _ css[i] l[i] (h4 w'' fun b hb1 hb2 => hk b (by omega) (by omega)) fun j v hj => ?_
    have h5 := flat_get css i j css[i] v (fun c hc => by
      obtain ⟨m, hm, rfl⟩ := List.mem_iff_getElem.1 hc
      have hml : m < l.length := by rw [h.len]; exact hm
      exact (h.all m css[m] l[m] (List.getElem?_eq_getElem hm) (List.getElem?_eq_getElem hml)).1) (List.getElem?_eq_getElem hi2) hj
    rw [← ht] at h5
    have h6 : i * k + j < css.length * k := by
      rcases Nat.lt_or_ge (i * k + j) (css.length * k) with h6 | h6
      · exact h6
      · rw [List.getElem?_eq_none (by rw [List.length_take]; omega)] at h5; cases h5
    rw [List.getElem?_take_of_lt h6] at h5
    rw [Nat.zero_add, Nat.mul_comm k i]
    simp [World.cell?, hg']
    simpa using h5
end
end Go.Proofs.YtdipnhghdajplaaGreatDoor
namespace Go.Proofs.YtdipnhghdajplaaGreatDoor
open Go.RowKit
set_option linter.unusedSimpArgs false
set_option linter.unusedVariables false

theorem Tryz.infoC1 : (Tryz.prog.info? 89).map (fun i => (i.zero, i.size, i.bytes)) = some (some (.agg #[.bool false, .int .i64 0, .int .i64 0, .int .i64 0, .slice none 0 0]), 5, 56) := by kernel_rfl
theorem Tryz.infoC2 : (Tryz.prog.info? 95).map (fun i => (i.zero, i.size, i.bytes)) = some (some (.agg #[.int .i64 0, .int .u64 0, .int .u64 0, .int .u64 0, .int .u64 0, .bool false, .slice none 0 0]), 7, 72) := by kernel_rfl
noncomputable def cnew8R : Array Oper := ((Tryz.f11.body.bind (findR 8)).getD #[])
set_option maxHeartbeats 6400000 in
set_option maxRecDepth 100000 in
theorem cnew8 {Q : Exit → Act → World → Prop} (df : List Deferred) (u0 u1 u2 u3 u4 u5 u7 u9 u10 u11 u12 u13 u14 u15 u16 u17 u18 u19 u20 u21 u22 u23 u24 u25 u26 u27 u28 u29 u30 u31 u32 u33 u34 u35 u36 u37 u38 u39 u40 u41 u42 u43 u44 u45 u46 u47 u48 u49 u50 u51 u52 u53 u54 u55 u56 u57 u58 : Value) (cb kb0 : Nat) (n0 : ByteArray) (kind file bits shift plus : Int) (E : Option Addr) (ex : List Int) (ec : Nat) (O : Option Addr) (ol oc : Nat) {w : World}
    (c0 : w.cell? ⟨cb, 0, none⟩ = some (.slice O ol oc)) (kb : BlkAt w kb0 [.string n0, .int .i64 kind, .int .i64 file, .int .i64 bits, .int .i64 shift, .int .i64 plus, .slice E ex.length ec])
    (base : Nat) (xs : List Value) (hown : w.ownsRow base 89 5 (.slice O ol oc) ol xs) (hol : ol ≤ 1000) (hlb : cb < base) (hnk : (Value.slice O ol oc).ownBlock ≠ some kb0) (hbw : base ≤ w.heap.size) (f0 : w.frozen? ⟨cb, 0, none⟩ = false)
    (hcall : ∀ w1, Fr w w1 → Calls Tryz.prog 29 #[.agg #[.string n0, .int .i64 kind, .int .i64 file, .int .i64 bits, .int .i64 shift, .int .i64 plus, .slice E ex.length ec]] w1 fun e w' => ∃ v, e = .returned (.agg #[.bool (sgC kind), .int .i64 bits, .int .i64 shift, .int .i64 plus, v]) ∧ Fr w1 w' ∧ NewInts w1.heap.size w' v ex)
    (hT : ∀ (g cap : Nat) (w2 w' : World) (A8 : Option Addr) (c8 : Nat) (x27 x28 x29 x30 x31 x32 x33 x34 x35 x36 x37 : Value), Fr w w2 → (∀ w'' : World, (∀ b, w.heap.size ≤ b → b < w2.heap.size → w''.heap[b]? = w2.heap[b]?) → RowOf IntC 1 w'' A8 ex) → GrewK (w2.alloc (.cells #[.bool (sgC kind), .int .i64 bits, .int .i64 shift, .int .i64 plus, .slice A8 ex.length c8] 89)) base 89 5 (.slice O ol oc) (ol + 1) (xs ++ [.bool (sgC kind), .int .i64 bits, .int .i64 shift, .int .i64 plus, .slice A8 ex.length c8]) (.slice (some ⟨g, 0, none⟩) (ol + 1) cap) w' → Q .normal ⟨#[u0, u1, u2, u3, u4, u5, .pointer (some ⟨cb, 0, none⟩), u7, .pointer (some ⟨kb0, 0, none⟩), u9, u10, u11, u12, u13, u14, u15, u16, u17, u18, u19, u20, u21, u22, u23, u24, u25, u26, x27, x28, x29, x30, x31, x32, x33, x34, x35, x36, x37, u38, u39, u40, u41, u42, u43, u44, u45, u46, u47, u48, u49, u50, u51, u52, u53, u54, u55, u56, u57, u58], df⟩ (w'.setCell ⟨cb, 0, none⟩ (.slice (some ⟨g, 0, none⟩) (ol + 1) cap)))
    : (Code.region 8 cnew8R true).wp Tryz.prog Q ⟨#[u0, u1, u2, u3, u4, u5, .pointer (some ⟨cb, 0, none⟩), u7, .pointer (some ⟨kb0, 0, none⟩), u9, u10, u11, u12, u13, u14, u15, u16, u17, u18, u19, u20, u21, u22, u23, u24, u25, u26, u27, u28, u29, u30, u31, u32, u33, u34, u35, u36, u37, u38, u39, u40, u41, u42, u43, u44, u45, u46, u47, u48, u49, u50, u51, u52, u53, u54, u55, u56, u57, u58], df⟩ w := by
  conv => arg 2; arg 2; whnf
  refine wp_region_noPanic ?_
  refine wp_region_head (n := 9) (S := fun wx => wx.cell? ⟨cb, 0, none⟩ = some (.slice O ol oc) ∧ BlkAt wx kb0 [.string n0, .int .i64 kind, .int .i64 file, .int .i64 bits, .int .i64 shift, .int .i64 plus, .slice E ex.length ec]) (by kernel_rfl) (by decide) ?_
  have HSF := Lib.hid (fun (wx : World) (k : Fr w wx) => (⟨k.get c0, kb.fr k⟩ : wx.cell? ⟨cb, 0, none⟩ = some (.slice O ol oc) ∧ BlkAt wx kb0 [.string n0, .int .i64 kind, .int .i64 file, .int .i64 bits, .int .i64 shift, .int .i64 plus, .slice E ex.length ec]))
  have HBK := Lib.hid kb
  have HDF : Fr w w.drew := Fr.drew (Fr.refl w)
  have HD := HSF.out _ HDF
  simp only [List.size_toArray, List.length_cons, List.length_nil, Nat.reduceAdd]
  refine wpHead_take (i := 0) (v := ?_) rfl (by kernel_rfl) (fun _ _ _ h => h) (Or.inl ⟨by rfl, ?hy0⟩) HD ?rest0
  case hy0 => (intro w' hw'; go_simp) <;> (try with_reducible rfl)
  (try simp only [Act.put, List.getElem_toArray, List.getElem_cons_zero, List.getElem_cons_succ, List.setIfInBounds_toArray, List.set_cons_zero, List.set_cons_succ])
  refine wpHead_take (i := 1) (v := ?_) rfl (by kernel_rfl) (fun _ _ _ h => h) (Or.inl ⟨by rfl, ?hy1⟩) HD ?rest1
  case hy1 => (intro w' hw'; go_simp) <;> (try with_reducible rfl)
  (try simp only [Act.put, List.getElem_toArray, List.getElem_cons_zero, List.getElem_cons_succ, List.setIfInBounds_toArray, List.set_cons_zero, List.set_cons_succ])
  refine wpHead_take (i := 2) (v := ?_) rfl (by kernel_rfl) (fun _ _ _ h => h) (Or.inl ⟨by rfl, ?hy2⟩) HD ?rest2
  case hy2 => (intro w' hw'; go_simp) <;> (try with_reducible rfl)
  (try simp only [Act.put, List.getElem_toArray, List.getElem_cons_zero, List.getElem_cons_succ, List.setIfInBounds_toArray, List.set_cons_zero, List.set_cons_succ])
  refine wpHead_take (i := 3) (v := ?_) rfl (by kernel_rfl) (fun _ _ _ h => h) (Or.inl ⟨by rfl, ?hy3⟩) HD ?rest3
  case hy3 => (intro w' hw'; go_simp) <;> (try with_reducible rfl)
  (try simp only [Act.put, List.getElem_toArray, List.getElem_cons_zero, List.getElem_cons_succ, List.setIfInBounds_toArray, List.set_cons_zero, List.set_cons_succ])
  refine wpHead_take (i := 4) (v := ?_) rfl (by kernel_rfl) (fun _ _ _ h => h) (Or.inl ⟨by rfl, ?hy4⟩) HD ?rest4
  case hy4 => (intro w' hw'; have g0 := hw'.1; go_simp) <;> (try with_reducible rfl)
  (try simp only [Act.put, List.getElem_toArray, List.getElem_cons_zero, List.getElem_cons_succ, List.setIfInBounds_toArray, List.set_cons_zero, List.set_cons_succ])
  refine wpHead_take (i := 5) (v := ?_) rfl (by kernel_rfl) (fun _ _ _ h => h) (Or.inl ⟨by rfl, ?hy5⟩) HD ?rest5
  case hy5 => (intro w' hw'; have g0 := hw'.2 0 _ rfl; have g1 := hw'.2 1 _ rfl; have g2 := hw'.2 2 _ rfl; have g3 := hw'.2 3 _ rfl; have g4 := hw'.2 4 _ rfl; have g5 := hw'.2 5 _ rfl; have g6 := hw'.2 6 _ rfl; go_simp) <;> (try with_reducible rfl)
  (try simp only [Act.put, List.getElem_toArray, List.getElem_cons_zero, List.getElem_cons_succ, List.setIfInBounds_toArray, List.set_cons_zero, List.set_cons_succ])
  clear kb
  have HDR := Lib.hid HDF
  clear HDF HD
  refine wpHead_go (i := 6) rfl (by kernel_rfl) (by decide) rfl (fun K hK => ?_)
  go_simp
  refine (hcall _ HDR.out).mono ?_
  rintro e w2 ⟨_, rfl, hf2, A8, c8, rfl, hv⟩
  have HF2 := Lib.hid (HDR.out.call hf2)
  have HV := Lib.hid hv
  clear hf2 hv hcall
  (try go_wp2_with fail)
  refine hK _ _ (HSF.out _ HF2.out) ?_
  try simp only [Act.put, List.getElem_toArray, List.getElem_cons_zero, List.getElem_cons_succ, List.setIfInBounds_toArray, List.set_cons_zero, List.set_cons_succ]
  clear hK K
  refine wpHead_go (i := 7) rfl (by kernel_rfl) (by decide) rfl (fun K hK => ?_)
  go_simp
  have HF := Fr.alloc HF2.out (.cells #[.bool (sgC kind), .int .i64 bits, .int .i64 shift, .int .i64 plus, .slice A8 ex.length c8] 89)
  refine hK _ _ (HSF.out _ HF) ?_
  clear hK K
  try simp only [Act.put, List.getElem_toArray, List.getElem_cons_zero, List.getElem_cons_succ, List.setIfInBounds_toArray, List.set_cons_zero, List.set_cons_succ]
  have hown2 : ((w2.alloc (.cells #[.bool (sgC kind), .int .i64 bits, .int .i64 shift, .int .i64 plus, .slice A8 ex.length c8] 89))).ownsRow base 89 5 (.slice O ol oc) ol xs := ownsRow_fr hown HF
  have c02 := HF.get c0
  have f02 := HF.free c0 f0
  have hne : (Value.slice O ol oc).ownBlock ≠ some cb := fun h => by
    have := (World.ownsRow.lt hown cb h).1
    omega
  have hz : w.heap.size ≤ (w2.alloc (.cells #[.bool (sgC kind), .int .i64 bits, .int .i64 shift, .int .i64 plus, .slice A8 ex.length c8] 89)).heap.size := HF.size
  refine wpHead_go (i := 8) rfl (by kernel_rfl) (by decide) rfl (fun K hK => ?_)
  refine wp_appendk _ (.tmp 31) (.tmp 34) 84 rfl base 89 5 Tryz.underlying84 Tryz.infoC1 rfl (by decide) (.slice O ol oc) ol xs rfl hown2 (some ⟨w2.heap.size, 0, none⟩) 1 1 [.bool (sgC kind), .int .i64 bits, .int .i64 shift, .int .i64 plus, .slice A8 ex.length c8] rfl rfl ?_ (fun h => by cases h) ?_ ?_ ?_ ?_ ?_
  · intro _
    refine ⟨_, rfl, fun j u hj => ?_⟩
    rw [add_zero_k2]
    exact BlkAt.alloc (w := w2) (t := 89) (cs := #[.bool (sgC kind), .int .i64 bits, .int .i64 shift, .int .i64 plus, .slice A8 ex.length c8]) j u hj
  · intro u hu
    simp only [List.mem_cons, List.not_mem_nil, or_false] at hu
    rcases hu with rfl | rfl | rfl | rfl | rfl <;> rfl
  · exact Nat.le_trans (show ol + 1 ≤ 1001 by omega) (by decide)
  · omega
  · exact Nat.le_trans hbw hz
  · intro v' w' hg
    have hgr := hg.out
    rcases hgr.1.2 with ⟨_, hn⟩ | ⟨g, cap, cur, rfl, _⟩
    · omega
    have c63 := grew_cell hgr.2.1 hne c02
    have hbk : BlkAt w' kb0 [.string n0, .int .i64 kind, .int .i64 file, .int .i64 bits, .int .i64 shift, .int .i64 plus, .slice E ex.length ec] := fun j u hu => grew_cell hgr.2.1 hnk (HF.get (HBK.out j u hu))
    refine hK _ _ ⟨c63, hbk⟩ ?_
    clear hK K hbk
    refine wpHead_done (by kernel_rfl) ?_
    simp only [List.drop_succ_cons, List.drop_zero]
    have f63 := grew_free hgr.2.1 hne c02 f02
    have HT := Lib.hid (fun (x27 x28 x29 x30 x31 x32 x33 x34 x35 x36 x37 : Value) => hT g cap w2 w' A8 c8 x27 x28 x29 x30 x31 x32 x33 x34 x35 x36 x37 HF2.out HV.out hg.out)
    clear hg hgr hown hown2 c0 c02 f0 f02 hT
    generalize (w2.alloc (.cells #[.bool (sgC kind), .int .i64 bits, .int .i64 shift, .int .i64 plus, .slice A8 ex.length c8] 89)) = W at *
    simp only [Act.put, List.getElem_toArray, List.getElem_cons_zero, List.getElem_cons_succ, List.setIfInBounds_toArray, List.set_cons_zero, List.set_cons_succ]
    go_wp2
    refine NoPanic.normal ?_
    exact HT.out _ _ _ _ _ _ _ _ _ _ _
noncomputable def cnew13R : Array Oper := ((Tryz.f11.body.bind (findR 13)).getD #[])
set_option maxHeartbeats 6400000 in
set_option maxRecDepth 100000 in
theorem cnew13 {Q : Exit → Act → World → Prop} (df : List Deferred) (u0 u2 u3 u4 u5 u7 u8 u10 u11 u12 u13 u14 u15 u16 u17 u18 u19 u20 u21 u22 u23 u24 u25 u26 u27 u28 u29 u30 u31 u32 u33 u34 u35 u36 u37 u38 u39 u40 u41 u42 u43 u44 u45 u46 u47 u48 u49 u50 u51 u52 u53 u54 u55 u56 u57 u58 : Value) (cb db0 n : Nat) (s0 : ByteArray) (order : Int) (Fa Ba Ga Ca Ma Ra Ua Xa Ka Na Pa : Option Addr) (fl fc bl bc gl gc cl cc ml mc rl rc ul uc xl xc kl kc nl nc pl pc : Nat) (T : Cf) (O : Option Addr) (ol oc : Nat) {w : World}
    (c0 : w.cell? ⟨cb, 1, none⟩ = some (.slice O ol oc)) (db : BlkAt w db0 [.string s0, .int .i64 order, .slice Fa fl fc, .slice Ba bl bc, .slice Ga gl gc, .slice Ca cl cc, .slice Ma ml mc, .slice Ra rl rc, .slice Ua ul uc, .slice Xa xl xc, .slice Ka kl kc, .slice Na nl nc, .slice Pa pl pc])
    (base : Nat) (xs : List Value) (hown : w.ownsRow base 95 7 (.slice O ol oc) ol xs) (hol : ol ≤ 1000) (hlb : cb < base) (hnk : (Value.slice O ol oc).ownBlock ≠ some db0) (hbw : base ≤ w.heap.size) (f0 : w.frozen? ⟨cb, 1, none⟩ = false)
    (hcall : ∀ w1, Fr w w1 → Calls Tryz.prog 30 #[.agg #[.string s0, .int .i64 order, .slice Fa fl fc, .slice Ba bl bc, .slice Ga gl gc, .slice Ca cl cc, .slice Ma ml mc, .slice Ra rl rc, .slice Ua ul uc, .slice Xa xl xc, .slice Ka kl kc, .slice Na nl nc, .slice Pa pl pc], .int .i64 (n : Int)] w1 fun e w' => ∃ O oc, e = .returned (.agg (cfV T O T.ops.length oc).toArray) ∧ Fr w1 w' ∧ ∀ w'' : World, (∀ b, w1.heap.size ≤ b → b < w'.heap.size → w''.heap[b]? = w'.heap[b]?) → RowOf OcRd 2 w'' O T.ops)
    (hT : ∀ (g cap : Nat) (w2 w' : World) (A8 : Option Addr) (c8 : Nat) (x45 x46 x47 x48 x49 x50 x51 x52 x53 x54 x55 x56 : Value), Fr w w2 → (∀ w'' : World, (∀ b, w.heap.size ≤ b → b < w2.heap.size → w''.heap[b]? = w2.heap[b]?) → RowOf OcRd 2 w'' A8 T.ops) → GrewK (w2.alloc (.cells #[.int .i64 (T.size : Int), .int .u64 (T.l0 : Int), .int .u64 (T.l1 : Int), .int .u64 (T.u0 : Int), .int .u64 (T.u1 : Int), .bool T.canon, .slice A8 T.ops.length c8] 95)) base 95 7 (.slice O ol oc) (ol + 1) (xs ++ [.int .i64 (T.size : Int), .int .u64 (T.l0 : Int), .int .u64 (T.l1 : Int), .int .u64 (T.u0 : Int), .int .u64 (T.u1 : Int), .bool T.canon, .slice A8 T.ops.length c8]) (.slice (some ⟨g, 0, none⟩) (ol + 1) cap) w' → Q .normal ⟨#[u0, .pointer (some ⟨db0, 0, none⟩), u2, u3, u4, u5, .pointer (some ⟨cb, 0, none⟩), u7, u8, .int .i64 (n : Int), u10, u11, u12, u13, u14, u15, u16, u17, u18, u19, u20, u21, u22, u23, u24, u25, u26, u27, u28, u29, u30, u31, u32, u33, u34, u35, u36, u37, u38, u39, u40, u41, u42, u43, u44, x45, x46, x47, x48, x49, x50, x51, x52, x53, x54, x55, x56, u57, u58], df⟩ (w'.setCell ⟨cb, 1, none⟩ (.slice (some ⟨g, 0, none⟩) (ol + 1) cap)))
    : (Code.region 13 cnew13R true).wp Tryz.prog Q ⟨#[u0, .pointer (some ⟨db0, 0, none⟩), u2, u3, u4, u5, .pointer (some ⟨cb, 0, none⟩), u7, u8, .int .i64 (n : Int), u10, u11, u12, u13, u14, u15, u16, u17, u18, u19, u20, u21, u22, u23, u24, u25, u26, u27, u28, u29, u30, u31, u32, u33, u34, u35, u36, u37, u38, u39, u40, u41, u42, u43, u44, u45, u46, u47, u48, u49, u50, u51, u52, u53, u54, u55, u56, u57, u58], df⟩ w := by
  conv => arg 2; arg 2; whnf
  refine wp_region_noPanic ?_
  refine wp_region_head (n := 10) (S := fun wx => wx.cell? ⟨cb, 1, none⟩ = some (.slice O ol oc) ∧ BlkAt wx db0 [.string s0, .int .i64 order, .slice Fa fl fc, .slice Ba bl bc, .slice Ga gl gc, .slice Ca cl cc, .slice Ma ml mc, .slice Ra rl rc, .slice Ua ul uc, .slice Xa xl xc, .slice Ka kl kc, .slice Na nl nc, .slice Pa pl pc]) (by kernel_rfl) (by decide) ?_
  have HSF := Lib.hid (fun (wx : World) (k : Fr w wx) => (⟨k.get c0, db.fr k⟩ : wx.cell? ⟨cb, 1, none⟩ = some (.slice O ol oc) ∧ BlkAt wx db0 [.string s0, .int .i64 order, .slice Fa fl fc, .slice Ba bl bc, .slice Ga gl gc, .slice Ca cl cc, .slice Ma ml mc, .slice Ra rl rc, .slice Ua ul uc, .slice Xa xl xc, .slice Ka kl kc, .slice Na nl nc, .slice Pa pl pc]))
  have HBK := Lib.hid db
  have HDF : Fr w w.drew := Fr.drew (Fr.refl w)
  have HD := HSF.out _ HDF
  simp only [List.size_toArray, List.length_cons, List.length_nil, Nat.reduceAdd]
  refine wpHead_take (i := 0) (v := ?_) rfl (by kernel_rfl) (fun _ _ _ h => h) (Or.inl ⟨by rfl, ?hy0⟩) HD ?rest0
  case hy0 => (intro w' hw'; go_simp) <;> (try with_reducible rfl)
  (try simp only [Act.put, List.getElem_toArray, List.getElem_cons_zero, List.getElem_cons_succ, List.setIfInBounds_toArray, List.set_cons_zero, List.set_cons_succ])
  refine wpHead_take (i := 1) (v := ?_) rfl (by kernel_rfl) (fun _ _ _ h => h) (Or.inl ⟨by rfl, ?hy1⟩) HD ?rest1
  case hy1 => (intro w' hw'; go_simp) <;> (try with_reducible rfl)
  (try simp only [Act.put, List.getElem_toArray, List.getElem_cons_zero, List.getElem_cons_succ, List.setIfInBounds_toArray, List.set_cons_zero, List.set_cons_succ])
  refine wpHead_take (i := 2) (v := ?_) rfl (by kernel_rfl) (fun _ _ _ h => h) (Or.inl ⟨by rfl, ?hy2⟩) HD ?rest2
  case hy2 => (intro w' hw'; go_simp) <;> (try with_reducible rfl)
  (try simp only [Act.put, List.getElem_toArray, List.getElem_cons_zero, List.getElem_cons_succ, List.setIfInBounds_toArray, List.set_cons_zero, List.set_cons_succ])
  refine wpHead_take (i := 3) (v := ?_) rfl (by kernel_rfl) (fun _ _ _ h => h) (Or.inl ⟨by rfl, ?hy3⟩) HD ?rest3
  case hy3 => (intro w' hw'; go_simp) <;> (try with_reducible rfl)
  (try simp only [Act.put, List.getElem_toArray, List.getElem_cons_zero, List.getElem_cons_succ, List.setIfInBounds_toArray, List.set_cons_zero, List.set_cons_succ])
  refine wpHead_take (i := 4) (v := ?_) rfl (by kernel_rfl) (fun _ _ _ h => h) (Or.inl ⟨by rfl, ?hy4⟩) HD ?rest4
  case hy4 => (intro w' hw'; have g0 := hw'.1; go_simp) <;> (try with_reducible rfl)
  (try simp only [Act.put, List.getElem_toArray, List.getElem_cons_zero, List.getElem_cons_succ, List.setIfInBounds_toArray, List.set_cons_zero, List.set_cons_succ])
  refine wpHead_take (i := 5) (v := ?_) rfl (by kernel_rfl) (fun _ _ _ h => h) (Or.inl ⟨by rfl, ?hy5⟩) HD ?rest5
  case hy5 => (intro w' hw'; have g0 := hw'.2 0 _ rfl; have g1 := hw'.2 1 _ rfl; have g2 := hw'.2 2 _ rfl; have g3 := hw'.2 3 _ rfl; have g4 := hw'.2 4 _ rfl; have g5 := hw'.2 5 _ rfl; have g6 := hw'.2 6 _ rfl; have g7 := hw'.2 7 _ rfl; have g8 := hw'.2 8 _ rfl; have g9 := hw'.2 9 _ rfl; have g10 := hw'.2 10 _ rfl; have g11 := hw'.2 11 _ rfl; have g12 := hw'.2 12 _ rfl; go_simp) <;> (try with_reducible rfl)
  (try simp only [Act.put, List.getElem_toArray, List.getElem_cons_zero, List.getElem_cons_succ, List.setIfInBounds_toArray, List.set_cons_zero, List.set_cons_succ])
  refine wpHead_take (i := 6) (v := ?_) rfl (by kernel_rfl) (fun _ _ _ h => h) (Or.inl ⟨by rfl, ?hy6⟩) HD ?rest6
  case hy6 => (intro w' hw'; go_simp) <;> (try with_reducible rfl)
  (try simp only [Act.put, List.getElem_toArray, List.getElem_cons_zero, List.getElem_cons_succ, List.setIfInBounds_toArray, List.set_cons_zero, List.set_cons_succ])
  clear db
  have HDR := Lib.hid HDF
  clear HDF HD
  refine wpHead_go (i := 7) rfl (by kernel_rfl) (by decide) rfl (fun K hK => ?_)
  go_simp
  refine (hcall _ HDR.out).mono ?_
  rintro e w2 ⟨A8, c8, rfl, hf2, hv⟩
  have HF2 := Lib.hid (HDR.out.call hf2)
  have HV := Lib.hid hv
  clear hf2 hv hcall
  (try go_wp2_with fail)
  refine hK _ _ (HSF.out _ HF2.out) ?_
  try simp only [Act.put, List.getElem_toArray, List.getElem_cons_zero, List.getElem_cons_succ, List.setIfInBounds_toArray, List.set_cons_zero, List.set_cons_succ]
  clear hK K
  refine wpHead_go (i := 8) rfl (by kernel_rfl) (by decide) rfl (fun K hK => ?_)
  go_simp
  have HF := Fr.alloc HF2.out (.cells #[.int .i64 (T.size : Int), .int .u64 (T.l0 : Int), .int .u64 (T.l1 : Int), .int .u64 (T.u0 : Int), .int .u64 (T.u1 : Int), .bool T.canon, .slice A8 T.ops.length c8] 95)
  refine hK _ _ (HSF.out _ HF) ?_
  clear hK K
  try simp only [Act.put, List.getElem_toArray, List.getElem_cons_zero, List.getElem_cons_succ, List.setIfInBounds_toArray, List.set_cons_zero, List.set_cons_succ]
  have hown2 : ((w2.alloc (.cells #[.int .i64 (T.size : Int), .int .u64 (T.l0 : Int), .int .u64 (T.l1 : Int), .int .u64 (T.u0 : Int), .int .u64 (T.u1 : Int), .bool T.canon, .slice A8 T.ops.length c8] 95))).ownsRow base 95 7 (.slice O ol oc) ol xs := ownsRow_fr hown HF
  have c02 := HF.get c0
  have f02 := HF.free c0 f0
  have hne : (Value.slice O ol oc).ownBlock ≠ some cb := fun h => by
    have := (World.ownsRow.lt hown cb h).1
    omega
  have hz : w.heap.size ≤ (w2.alloc (.cells #[.int .i64 (T.size : Int), .int .u64 (T.l0 : Int), .int .u64 (T.l1 : Int), .int .u64 (T.u0 : Int), .int .u64 (T.u1 : Int), .bool T.canon, .slice A8 T.ops.length c8] 95)).heap.size := HF.size
  refine wpHead_go (i := 9) rfl (by kernel_rfl) (by decide) rfl (fun K hK => ?_)
  refine wp_appendk _ (.tmp 49) (.tmp 53) 85 rfl base 95 7 Tryz.underlying85 Tryz.infoC2 rfl (by decide) (.slice O ol oc) ol xs rfl hown2 (some ⟨w2.heap.size, 0, none⟩) 1 1 [.int .i64 (T.size : Int), .int .u64 (T.l0 : Int), .int .u64 (T.l1 : Int), .int .u64 (T.u0 : Int), .int .u64 (T.u1 : Int), .bool T.canon, .slice A8 T.ops.length c8] rfl rfl ?_ (fun h => by cases h) ?_ ?_ ?_ ?_ ?_
  · intro _
    refine ⟨_, rfl, fun j u hj => ?_⟩
    rw [add_zero_k2]
    exact BlkAt.alloc (w := w2) (t := 95) (cs := #[.int .i64 (T.size : Int), .int .u64 (T.l0 : Int), .int .u64 (T.l1 : Int), .int .u64 (T.u0 : Int), .int .u64 (T.u1 : Int), .bool T.canon, .slice A8 T.ops.length c8]) j u hj
  · intro u hu
    simp only [List.mem_cons, List.not_mem_nil, or_false] at hu
    rcases hu with rfl | rfl | rfl | rfl | rfl | rfl | rfl <;> rfl
  · exact Nat.le_trans (show ol + 1 ≤ 1001 by omega) (by decide)
  · omega
  · exact Nat.le_trans hbw hz
  · intro v' w' hg
    have hgr := hg.out
    rcases hgr.1.2 with ⟨_, hn⟩ | ⟨g, cap, cur, rfl, _⟩
    · omega
    have c63 := grew_cell hgr.2.1 hne c02
    have hbk : BlkAt w' db0 [.string s0, .int .i64 order, .slice Fa fl fc, .slice Ba bl bc, .slice Ga gl gc, .slice Ca cl cc, .slice Ma ml mc, .slice Ra rl rc, .slice Ua ul uc, .slice Xa xl xc, .slice Ka kl kc, .slice Na nl nc, .slice Pa pl pc] := fun j u hu => grew_cell hgr.2.1 hnk (HF.get (HBK.out j u hu))
    refine hK _ _ ⟨c63, hbk⟩ ?_
    clear hK K hbk
    refine wpHead_done (by kernel_rfl) ?_
    simp only [List.drop_succ_cons, List.drop_zero]
    have f63 := grew_free hgr.2.1 hne c02 f02
    have HT := Lib.hid (fun (x45 x46 x47 x48 x49 x50 x51 x52 x53 x54 x55 x56 : Value) => hT g cap w2 w' A8 c8 x45 x46 x47 x48 x49 x50 x51 x52 x53 x54 x55 x56 HF2.out HV.out hg.out)
    clear hg hgr hown hown2 c0 c02 f0 f02 hT
    generalize (w2.alloc (.cells #[.int .i64 (T.size : Int), .int .u64 (T.l0 : Int), .int .u64 (T.l1 : Int), .int .u64 (T.u0 : Int), .int .u64 (T.u1 : Int), .bool T.canon, .slice A8 T.ops.length c8] 95)) = W at *
    simp only [Act.put, List.getElem_toArray, List.getElem_cons_zero, List.getElem_cons_succ, List.setIfInBounds_toArray, List.set_cons_zero, List.set_cons_succ]
    go_wp2
    refine NoPanic.normal ?_
    exact HT.out _ _ _ _ _ _ _ _ _ _ _ _
end Go.Proofs.YtdipnhghdajplaaGreatDoor
namespace Go.Proofs.YtdipnhghdajplaaGreatDoor
open Go.RowKit
set_option linter.unusedSimpArgs false
set_option linter.unusedVariables false

theorem containsC_any {w : World} {A : Option Addr} {l : List Int} (c : Nat) (h : RowOf IntC 1 w A l) (hm : l.length ≤ maxLen) (x : Int) :
    Calls Tryz.prog 102 #[.slice A l.length c, .int .i64 x] w fun e w' => e = .returned (.bool (l.contains x)) ∧ w' = w := by
  by_cases h0 : 0 < l.length
  · obtain ⟨b, o, rfl, hx⟩ := h h0
    have := Tryz.slices_Contains_int b o l.length c l x w (Nat.le_refl _) (Nat.le_trans hm (by decide)) (fun j hj => by
      have := hx j hj
      unfold IntC at this
      rw [Nat.one_mul] at this
      rw [this, List.getD_eq_getElem?_getD, List.getElem?_eq_getElem hj]; rfl)
    rwa [List.take_length] at this
  · obtain rfl : l = [] := List.eq_nil_of_length_eq_zero (by omega)
    exact Tryz.slices_Contains_int_empty A c x w
set_option maxHeartbeats 3200000 in
set_option maxRecDepth 100000 in
theorem excepts_any {w : World} (b o : Nat) {A : Option Addr} {l : List Int} (c : Nat) (x : Int) (h4 : w.cell? ⟨b, o + 4, none⟩ = some (.slice A l.length c)) (h : RowOf IntC 1 w A l) (hm : l.length ≤ maxLen) :
    Calls Tryz.prog 62 #[.pointer (some ⟨b, o, none⟩), .int .i64 x] w fun e w' => e = .returned (.bool (l.contains x)) ∧ w' = w := by
  have hC := containsC_any c h hm x
  generalize l.contains x = y at *
  have HC := Lib.hid hC
  have zb := lt_of_cell h4
  clear h hm hC
  go_enter Tryz.func62, Tryz.ntmps62
  go_wp2_with fail
  refine HC.out.mono ?_
  rintro e w' ⟨rfl, rfl⟩
  go_wp2
  go_ret
  exact ⟨rfl, rfl⟩
set_option maxHeartbeats 6400000 in
set_option maxRecDepth 100000 in
theorem among_any (a b c d : Nat) (ha : a < 18446744073709551616) (hb : b < 18446744073709551616) (hc : c < 18446744073709551616) (hd : d < 18446744073709551616) (w : World) :
    Calls Tryz.prog 38 #[.agg #[.int .u64 (a : Int), .int .u64 (b : Int)], .agg #[.int .u64 (c : Int), .int .u64 (d : Int)]] w fun e w' => e = .returned (.agg #[.int .u64 ((a &&& c : Nat) : Int), .int .u64 ((b &&& d : Nat) : Int)]) ∧ Fr w w' := by
  have e1 : bits .and .u64 (a : Int) (c : Int) = ((a &&& c : Nat) : Int) := u64_and_nat a c ha hc
  have e2 : bits .and .u64 (b : Int) (d : Int) = ((b &&& d : Nat) : Int) := u64_and_nat b d hb hd
  generalize a &&& c = x at *
  generalize b &&& d = y at *
  go_enter Tryz.func38, Tryz.ntmps38
  go_wp2
  refine bodyPost_ret (v := .agg #[.int .u64 (x : Int), .int .u64 (y : Int)]) (by simp [results, Tryz.results38, go_sem, *]) rfl ⟨rfl, ?_⟩
  exact Fr.alloc (Fr.alloc (Fr.alloc (Fr.refl _) _) _) _
end Go.Proofs.YtdipnhghdajplaaGreatDoor
namespace Go.Proofs.YtdipnhghdajplaaGreatDoor
open Go.RowKit
set_option linter.unusedSimpArgs false
set_option linter.unusedVariables false

theorem pow_pos2 (n : Nat) : (0 : Int) < 2 ^ n := Int.pow_pos (by decide)
def fitsUB (n x : Int) : Bool := decide (1 ≤ x ∧ 0 ≤ n ∧ (64 ≤ x ∨ n < 2 ^ x.toNat))
def fitsSB (n x : Int) : Bool := decide (1 ≤ x ∧ (64 ≤ x ∨ (-(2 ^ (x.toNat - 1)) ≤ n ∧ n < 2 ^ (x.toNat - 1))))
theorem div_pow_zero (n : Int) (k : Nat) (h : 0 ≤ n) : (n / 2 ^ k == 0) = decide (n < 2 ^ k) := by
  have hp := pow_pos2 k
  by_cases g : n < 2 ^ k
  · rw [Int.ediv_eq_zero_of_lt h g, decide_eq_true g]; rfl
  · rw [decide_eq_false g, beq_eq_false_iff_ne]
    have := Int.le_ediv_of_mul_le hp (by omega : 1 * 2 ^ k ≤ n)
    omega
theorem div_pow_s (n : Int) (k : Nat) : (n / 2 ^ k == 0 || n / 2 ^ k == -1) = decide (-(2 ^ k) ≤ n ∧ n < 2 ^ k) := by
  have hp := pow_pos2 k
  have h1 := Int.emod_add_mul_ediv n (2 ^ k)
  have h2 := Int.emod_nonneg n (by omega : (2 : Int) ^ k ≠ 0)
  have h3 := Int.emod_lt_of_pos n hp
  by_cases e0 : n / 2 ^ k = 0
  · rw [e0, Int.mul_zero] at h1
    rw [e0, decide_eq_true (by omega)]; rfl
  · by_cases e1 : n / 2 ^ k = -1
    · rw [e1] at h1
      rw [e1, decide_eq_true (by omega)]; rfl
    · have g0 : (n / 2 ^ k == 0) = false := by rw [beq_eq_false_iff_ne]; exact e0
      have g1 : (n / 2 ^ k == -1) = false := by rw [beq_eq_false_iff_ne]; exact e1
      rw [g0, g1, decide_eq_false]
      · rfl
      · rintro ⟨k1, k2⟩
        rcases (by omega : n < 0 ∨ 0 ≤ n) with hn | hn
        · have : n / 2 ^ k < 0 := Int.ediv_neg_of_neg_of_pos hn hp
          have : -1 ≤ n / 2 ^ k := Int.le_ediv_of_mul_le hp (by omega)
          omega
        · exact e0 (Int.ediv_eq_zero_of_lt hn k2)
set_option maxHeartbeats 4000000 in
theorem fitsU_any (n x : Int) (n0 : -9223372036854775808 ≤ n) (n1 : n ≤ 9223372036854775807) (x0 : -9223372036854775808 ≤ x) (x1 : x ≤ 9223372036854775807) (w : World) :
    Calls Tryz.prog 64 #[.int .i64 n, .int .i64 x] w fun e w' => e = .returned (.bool (fitsUB n x)) ∧ Fr w w' := by
  by_cases c1 : 1 ≤ x
  · by_cases c2 : 0 ≤ n
    · by_cases c3 : 64 ≤ x
      · have E : Hid (fitsUB n x = true) := decide_eq_true ⟨c1, c2, Or.inl c3⟩
        go_enter Tryz.func64, Tryz.ntmps64
        go_wp2
        go_ret
        exact ⟨by rw [E.out]; rfl, by repeat (first | with_reducible exact Fr.refl _ | with_reducible apply Fr.drewN | with_reducible apply Fr.drew | with_reducible apply Fr.alloc | (with_reducible refine Fr.set ?_ (by simp; try omega) _) | (with_reducible refine Fr.call ?_ (by assumption)))⟩
      · have E : Hid (fitsUB n x = (n / 2 ^ x.toNat == 0)) := by
          show fitsUB n x = _
          rw [div_pow_zero _ _ c2]; unfold fitsUB; exact decide_eq_decide.2 (by omega)
        have c4 : x < 64 := by omega
        clear c3
        go_enter Tryz.func64, Tryz.ntmps64
        go_wp2
        go_ret
        exact ⟨by rw [E.out]; simp; omega, by repeat (first | with_reducible exact Fr.refl _ | with_reducible apply Fr.drewN | with_reducible apply Fr.drew | with_reducible apply Fr.alloc | (with_reducible refine Fr.set ?_ (by simp; try omega) _) | (with_reducible refine Fr.call ?_ (by assumption)))⟩
    · have E : Hid (fitsUB n x = false) := decide_eq_false (by omega)
      have c4 : n < 0 := by omega
      clear c2
      go_enter Tryz.func64, Tryz.ntmps64
      go_wp2
      go_ret
      exact ⟨by rw [E.out]; rfl, by repeat (first | with_reducible exact Fr.refl _ | with_reducible apply Fr.drewN | with_reducible apply Fr.drew | with_reducible apply Fr.alloc | (with_reducible refine Fr.set ?_ (by simp; try omega) _) | (with_reducible refine Fr.call ?_ (by assumption)))⟩
  · have E : Hid (fitsUB n x = false) := decide_eq_false (by omega)
    have c4 : x < 1 := by omega
    clear c1
    go_enter Tryz.func64, Tryz.ntmps64
    go_wp2
    go_ret
    exact ⟨by rw [E.out]; rfl, by repeat (first | with_reducible exact Fr.refl _ | with_reducible apply Fr.drewN | with_reducible apply Fr.drew | with_reducible apply Fr.alloc | (with_reducible refine Fr.set ?_ (by simp; try omega) _) | (with_reducible refine Fr.call ?_ (by assumption)))⟩
set_option maxHeartbeats 4000000 in
theorem fitsS_any (n x : Int) (n0 : -9223372036854775808 ≤ n) (n1 : n ≤ 9223372036854775807) (x0 : -9223372036854775808 ≤ x) (x1 : x ≤ 9223372036854775807) (w : World) :
    Calls Tryz.prog 63 #[.int .i64 n, .int .i64 x] w fun e w' => e = .returned (.bool (fitsSB n x)) ∧ Fr w w' := by
  by_cases c1 : 1 ≤ x
  · have E : Hid (fitsSB n x = (n / 2 ^ (min (x - 1) 63).toNat == 0 || n / 2 ^ (min (x - 1) 63).toNat == -1)) := by
      show fitsSB n x = _
      rw [div_pow_s]; unfold fitsSB; apply decide_eq_decide.2
      by_cases g : 64 ≤ x
      · have e : (min (x - 1) 63).toNat = 63 := by omega
        rw [e]; exact ⟨fun _ => by omega, fun _ => by omega⟩
      · have e : (min (x - 1) 63).toNat = x.toNat - 1 := by omega
        rw [e]; exact ⟨fun k => by omega, fun k => by omega⟩
    generalize hm : (n / 2 ^ (min (x - 1) 63).toNat) = m at E
    cases e1 : (m == 0) <;> cases e2 : (m == -1)
    all_goals
      have HM := Lib.hid hm; clear hm
      rw [e1, e2] at E
      rw [← HM.out] at e1 e2
      go_enter Tryz.func63, Tryz.ntmps63
      go_wp2
      go_ret
      exact ⟨by rw [E.out]; rfl, by repeat (first | with_reducible exact Fr.refl _ | with_reducible apply Fr.drewN | with_reducible apply Fr.drew | with_reducible apply Fr.alloc | (with_reducible refine Fr.set ?_ (by simp; try omega) _) | (with_reducible refine Fr.call ?_ (by assumption)))⟩
  · have E : Hid (fitsSB n x = false) := decide_eq_false (by omega)
    have c4 : x < 1 := by omega
    clear c1
    go_enter Tryz.func63, Tryz.ntmps63
    go_wp2
    go_ret
    exact ⟨by rw [E.out]; rfl, by repeat (first | with_reducible exact Fr.refl _ | with_reducible apply Fr.drewN | with_reducible apply Fr.drew | with_reducible apply Fr.alloc | (with_reducible refine Fr.set ?_ (by simp; try omega) _) | (with_reducible refine Fr.call ?_ (by assumption)))⟩
end Go.Proofs.YtdipnhghdajplaaGreatDoor
