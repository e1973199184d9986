/- What came in, opened, and how great its parts are. -/
import Derived.Test.YtdipnhghdajplaaGreatDoorP16
import Derived.Test.YtdipnhghdajplaaGreatDoorRows
namespace Go.Proofs.YtdipnhghdajplaaGreatDoor
open Go.ChangeShapes Go.WideShapes Go.RowKit Go.Deep
set_option linter.unusedSimpArgs false
set_option linter.unusedVariables false
set_option maxRecDepth 100000
theorem bulk_one {H : Type} (d : DataW H) : 1 ≤ Rows.uptoBulk d := by
 cases d with
 | lit l => cases l <;> simp [Rows.uptoBulk]
 | nil => simp [Rows.uptoBulk]
 | ptr d => simp [Rows.uptoBulk]
 | slice elems spare => simp [Rows.uptoBulk]
 | agg parts => simp [Rows.uptoBulk]
 | iface t d => simp [Rows.uptoBulk]
 | map entries => simp [Rows.uptoBulk]
 | held h => simp [Rows.uptoBulk]
theorem bulk_part {H : Type} {d : DataW H} {l : List (DataW H)} (h : d ∈ l) : Rows.uptoBulk d ≤ Rows.uptoBulkAll l := by
 induction l with
 | nil => cases h
 | cons x r ih =>
   simp only [Rows.uptoBulkAll]
   rcases List.mem_cons.1 h with e | e
   · subst e; omega
   · have := ih e; omega
theorem bulk_count {H : Type} : ∀ l : List (DataW H), l.length ≤ Rows.uptoBulkAll l
 | [] => Nat.zero_le _
 | d :: r => by
   have h1 := bulk_one d
   have h2 := bulk_count r
   simp only [List.length_cons, Rows.uptoBulkAll]; omega
theorem rowAnd_row {α : Type} {f : World → Nat → Nat → α → Prop} {G : α → Prop} {n : Nat} {W : World} {A : Option Addr} {l : List α} (h : RowOf (fun w b o x => f w b o x ∧ G x) n W A l) : RowOf f n W A l := fun hl => by
 obtain ⟨b, o, e, hx⟩ := h hl; exact ⟨b, o, e, fun i hi => (hx i hi).1⟩
theorem rowAnd_all {α : Type} {f : World → Nat → Nat → α → Prop} {G : α → Prop} {n : Nat} {W : World} {A : Option Addr} {l : List α} (h : RowOf (fun w b o x => f w b o x ∧ G x) n W A l) : ∀ x ∈ l, G x := fun x hx => by
 obtain ⟨i, hi, rfl⟩ := List.mem_iff_getElem.1 hx
 obtain ⟨b, o, e, hy⟩ := h (by omega); exact (hy i hi).2
section
variable {H : Type} {enc : TypeId × Value → H} {P : Program} {W : World}
def OpensB (enc : TypeId × Value → H) (P : Program) (W : World) {α : Type} (e : TypeId) (f : World → Nat → Nat → α → Prop) (m N : Nat) : Prop :=
 ∀ (n : Nat) (cs : List Value) (x : DataW H × List MemPlace) (b o : Nat), n < m → DataW.trod enc P W 0 (fun _ => true) true n e cs = some x → Rows.uptoBulk x.1 ≤ N → cs.length = P.cellsOf e → CellsAt W b o cs → ∃ a : α, f W b o a
theorem OpensB.row {N : Nat} {α : Type} {t e : TypeId} {f : World → Nat → Nat → α → Prop} {m : Nat} (ht : P.underlying t = some (.slice e)) {n : Nat} (hn : P.cellsOf e = n) (hpos : 0 < n) (ho : OpensB enc P W e f m N)
   {fuel : Nat} (hf : fuel ≤ m) {cs : List Value} {x : DataW H × List MemPlace} (h : DataW.trod enc P W 0 (fun _ => true) true fuel t cs = some x) (hN : Rows.uptoBulk x.1 ≤ N) :
   ∃ (A : Option Addr) (l : List α) (c : Nat), cs = [.slice A l.length c] ∧ l.length ≤ c ∧ c ≤ maxLen ∧ l.length ≤ N ∧ RowOf f n W A l := by
 rcases DataW.trod_slice ht h with ⟨rfl, rfl⟩ | ⟨a, len, cap, elems, rest, n', rfl, rfl, rfl, hb, hlc, hcm, hlen, hel, _, _⟩
 · exact ⟨none, [], 0, rfl, Nat.le_refl _, by decide, Nat.zero_le _, fun h => absurd h (by simp)⟩
 · have hall : Rows.uptoBulkAll (elems.map (·.1)) ≤ N := by simp only [Rows.uptoBulk] at hN; omega
   have hcnt := bulk_count (elems.map (·.1))
   rw [List.length_map] at hcnt
   have hspot : 0 < len → a.spot = none := by
     intro h0
     have h1 := hel 0 h0
     rw [List.getElem?_eq_getElem (by omega)] at h1
     obtain ⟨cs', h2, h3⟩ := Option.bind_eq_some_iff.1 h1
     obtain ⟨_, hl4, hc⟩ := World.cells?_some h2
     have h4 := hc 0 (by omega)
     rw [List.getElem?_eq_getElem (by omega)] at h4
     simpa [Addr.add] using World.cell?_spot h4
   have key : ∀ i, i < len → ∃ x : α, ∃ b o, a = ⟨b, o, none⟩ ∧ f W b (o + n * i) x := by
     intro i hi
     have h1 := hel i hi
     rw [List.getElem?_eq_getElem (by omega)] at h1
     obtain ⟨cs', h2, h3⟩ := Option.bind_eq_some_iff.1 h1
     obtain ⟨_, hl4, hc⟩ := World.cells?_some h2
     have hs := hspot (by omega)
     obtain ⟨b, o, spot⟩ := a
     simp only at hs
     subst hs
     obtain ⟨x, hx⟩ := ho n' cs' _ b (o + i * P.cellsOf e) (by omega) h3 (Nat.le_trans (bulk_part (List.mem_map_of_mem (List.getElem_mem (by omega : i < elems.length)))) hall) hl4 fun k v hk => by
       have hkl : k < P.cellsOf e := by rw [← hl4]; exact (List.getElem?_eq_some_iff.1 hk).1
       have := hc k hkl
       rw [off_add, off_add] at this
       rw [this, hk]
     exact ⟨x, b, o, rfl, by rw [hn, Nat.mul_comm] at hx; exact hx⟩
   obtain ⟨l, hl, hq⟩ := list_of_ex len key
   subst hl
   refine ⟨some a, l, cap, rfl, hlc, hcm, by omega, fun h0 => ?_⟩
   obtain ⟨b, o, rfl, _⟩ := hq 0 h0
   refine ⟨b, o, rfl, fun i hi => ?_⟩
   obtain ⟨b', o', e', hx⟩ := hq i hi
   injection e' with e1 e2; subst e1 e2
   exact hx
theorem open_fieldsB {t : TypeId} {fs : Array Field} (ht : P.underlying t = some (.struct fs)) {fuel : Nat} {cs : List Value} {x : DataW H × List MemPlace} (h : DataW.trod enc P W 0 (fun _ => true) true fuel t cs = some x) :
   ∃ n, fuel = n + 1 ∧ cs.length = P.cellsOf t ∧ ∀ (i : Nat) (f : Field) (o c : Nat) (t : TypeId), fs[i]? = some f → f.offset = o → P.cellsOf f.type = c → f.type = t → ∃ y, DataW.trod enc P W 0 (fun _ => true) true n t ((cs.drop o).take c) = some y ∧ Rows.uptoBulk y.1 ≤ Rows.uptoBulk x.1 := by
 obtain ⟨xs, n, h1, rfl, h2, h3, h4⟩ := DataW.trod_struct ht h
 refine ⟨n, h1, h2, fun i f o c t hf ho hc ht => ?_⟩
 subst ho hc ht
 have hi : i < fs.size := (Array.getElem?_eq_some_iff.1 hf).1
 have := h4 i f hf
 rw [List.getElem?_eq_getElem (by omega)] at this
 refine ⟨_, this, ?_⟩
 have hb := bulk_part (H := H) (List.mem_map_of_mem (f := (·.1)) (List.getElem_mem (by omega : i < xs.length)))
 simp only [Rows.uptoBulk]
 omega
theorem hfx {n : Nat} {fs : Array Field} {cs : List Value} {B : Nat} (hf : ∀ (i : Nat) (f : Field) (o c : Nat) (t : TypeId), fs[i]? = some f → f.offset = o → P.cellsOf f.type = c → f.type = t → ∃ y, DataW.trod enc P W 0 (fun _ => true) true n t ((cs.drop o).take c) = some y ∧ Rows.uptoBulk y.1 ≤ B) :
   ∀ (i : Nat) (f : Field) (o c : Nat) (t : TypeId), fs[i]? = some f → f.offset = o → P.cellsOf f.type = c → f.type = t → ∃ y, DataW.trod enc P W 0 (fun _ => true) true n t ((cs.drop o).take c) = some y := fun i f o c t h1 h2 h3 h4 => by
 obtain ⟨y, hy, _⟩ := hf i f o c t h1 h2 h3 h4; exact ⟨y, hy⟩
theorem open_fstrB {t : TypeId} (ht : P.underlying t = some .string) {fuel B : Nat} {cs : List Value} (h : ∃ y, DataW.trod enc P W 0 (fun _ => true) true fuel t cs = some y ∧ Rows.uptoBulk y.1 ≤ B) : ∃ s : ByteArray, cs = [.string s] ∧ s.size ≤ maxLen ∧ s.size ≤ B := by
 obtain ⟨y, h, hB⟩ := h
 obtain ⟨s, h1, rfl, h2⟩ := DataW.trod_string ht h
 refine ⟨s, h1, h2, ?_⟩
 simp only [Rows.uptoBulk] at hB
 have : s.data.toList.length = s.size := by simp
 omega
end
section
variable {H : Type} {enc : TypeId × Value → H} {W : World}
theorem opensB_piece (m N : Nat) : OpensB enc Tryz.prog W 148 (fun w b o (x : Pc) => PcAt w b o x ∧ x.lit.size ≤ N) m N := by
 intro n cs x b o hn h hN hl hc
 obtain ⟨n', rfl, _, hf⟩ := open_fieldsB Tryz.underlying148 h
 rw [cells_piece] at hl
 match cs, hl with
 | [c0, c1, c2, c3], _ =>
   obtain ⟨n0, e0, w0, b0⟩ := open_fstrB Tryz.underlying9 (hf 0 _ 0 1 _ rfl rfl cells_str rfl)
   obtain ⟨n1, e1, w1⟩ := open_fint Tryz.underlying3 (hfx hf 1 _ 1 1 _ rfl rfl cells_int rfl)
   obtain ⟨n2, e2, w2⟩ := open_fint Tryz.underlying3 (hfx hf 2 _ 2 1 _ rfl rfl cells_int rfl)
   obtain ⟨n3, e3, w3⟩ := open_fint Tryz.underlying3 (hfx hf 3 _ 3 1 _ rfl rfl cells_int rfl)
   simp only [List.drop_zero, List.drop_succ_cons, List.take_succ_cons, List.take_zero, List.cons.injEq, and_true] at e0 e1 e2 e3
   subst e0 e1 e2 e3
   exact ⟨⟨n0, n1, n2, n3⟩, ⟨w0, hc 0 _ rfl, I64.of_wf w1, hc 1 _ rfl, I64.of_wf w2, hc 2 _ rfl, I64.of_wf w3, hc 3 _ rfl⟩, by simp only; omega⟩
theorem opensB_form (m N : Nat) : OpensB enc Tryz.prog W 43 (fun w b o (x : Fm) => FmAt w b o x ∧ (x.pcs.length ≤ N ∧ ∀ p ∈ x.pcs, p.lit.size ≤ N)) m N := by
 intro n cs x b o hn h hN hl hc
 obtain ⟨n', rfl, _, hf⟩ := open_fieldsB Tryz.underlying43 h
 rw [cells_form] at hl
 match cs, hl with
 | [c0, c1, c2, c3, c4], _ =>
   obtain ⟨n0, e0, w0⟩ := open_fstr Tryz.underlying9 (hfx hf 0 _ 0 1 _ rfl rfl cells_str rfl)
   obtain ⟨n1, e1, w1⟩ := open_fstr Tryz.underlying9 (hfx hf 1 _ 1 1 _ rfl rfl cells_str rfl)
   obtain ⟨y2, z2, _⟩ := hf 2 _ 2 1 _ rfl rfl cells_args rfl
   obtain ⟨A2, l2, k2, e2, u2, v2, r2⟩ := Opens.row Tryz.underlying39 cells_arg (by decide) (opens_argS n') (Nat.le_refl _) z2
   obtain ⟨y3, z3, b3⟩ := hf 3 _ 3 1 _ rfl rfl cells_pieces rfl
   obtain ⟨A3, l3, k3, e3, u3, v3, n3, r3⟩ := OpensB.row Tryz.underlying40 cells_piece (by decide) (opensB_piece n' N) (Nat.le_refl _) z3 (Nat.le_trans b3 hN)
   obtain ⟨y4, z4, _⟩ := hf 4 _ 4 1 _ rfl rfl cells_terms rfl
   obtain ⟨A4, l4, k4, e4, u4, v4, r4⟩ := Opens.row Tryz.underlying41 cells_term (by decide) (opens_term n') (Nat.le_refl _) z4
   simp only [List.drop_zero, List.drop_succ_cons, List.take_succ_cons, List.take_zero, List.cons.injEq, and_true] at e0 e1 e2 e3 e4
   subst e0 e1 e2 e3 e4
   exact ⟨⟨l2, l3, l4⟩, ⟨n0, n1, A2, k2, A3, k3, A4, k4, hc 0 _ rfl, hc 1 _ rfl, u2, v2, hc 2 _ rfl, r2, u3, v3, hc 3 _ rfl, rowAnd_row r3, u4, v4, hc 4 _ rfl, r4⟩, n3, rowAnd_all r3⟩
end
end Go.Proofs.YtdipnhghdajplaaGreatDoor
namespace Go.Proofs.YtdipnhghdajplaaGreatDoor
open Go.ChangeShapes Go.WideShapes Go.RowKit Go.Deep
set_option linter.unusedSimpArgs false
set_option linter.unusedVariables false
set_option maxRecDepth 100000
section
variable {H : Type} {enc : TypeId × Value → H} {W : World}
theorem opensB_int (m N : Nat) : OpensB enc Tryz.prog W 3 IntAt m N := by
 intro n cs x b o _ h _ hl hc
 obtain ⟨k, e, hw⟩ := open_fint Tryz.underlying3 ⟨x, h⟩
 subst e
 exact ⟨k, I64.of_wf hw, by have := hc 0 _ rfl; simpa using this⟩
theorem opensB_class (m N : Nat) : OpensB enc Tryz.prog W 64 (fun w b o (x : Cl) => ClAt w b o x ∧ x.ex.length ≤ N) m N := by
 intro n cs x b o hn h hN hl hc
 obtain ⟨n', rfl, _, hf⟩ := open_fieldsB Tryz.underlying64 h
 rw [cells_class] at hl
 match cs, hl with
 | [c0, c1, c2, c3, c4, c5, c6], _ =>
   obtain ⟨n0, e0, w0⟩ := open_fstr Tryz.underlying9 (hfx hf 0 _ 0 1 _ rfl rfl cells_str rfl)
   obtain ⟨n1, e1, w1⟩ := open_fint Tryz.underlying3 (hfx hf 1 _ 1 1 _ rfl rfl cells_int rfl)
   obtain ⟨n2, e2, w2⟩ := open_fint Tryz.underlying3 (hfx hf 2 _ 2 1 _ rfl rfl cells_int rfl)
   obtain ⟨n3, e3, w3⟩ := open_fint Tryz.underlying3 (hfx hf 3 _ 3 1 _ rfl rfl cells_int rfl)
   obtain ⟨n4, e4, w4⟩ := open_fint Tryz.underlying3 (hfx hf 4 _ 4 1 _ rfl rfl cells_int rfl)
   obtain ⟨n5, e5, w5⟩ := open_fint Tryz.underlying3 (hfx hf 5 _ 5 1 _ rfl rfl cells_int rfl)
   obtain ⟨y6, z6, b6⟩ := hf 6 _ 6 1 _ rfl rfl cells_ints rfl
   obtain ⟨A6, l6, k6, e6, u6, v6, n6, r6⟩ := OpensB.row Tryz.underlying46 cells_int (by decide) (opensB_int n' N) (Nat.le_refl _) z6 (Nat.le_trans b6 hN)
   simp only [List.drop_zero, List.drop_succ_cons, List.take_succ_cons, List.take_zero, List.cons.injEq, and_true] at e0 e1 e2 e3 e4 e5 e6
   subst e0 e1 e2 e3 e4 e5 e6
   exact ⟨⟨n1, n2, n3, n4, n5, l6⟩, ⟨n0, A6, k6, hc 0 _ rfl, I64.of_wf w1, hc 1 _ rfl, I64.of_wf w2, hc 2 _ rfl, I64.of_wf w3, hc 3 _ rfl, I64.of_wf w4, hc 4 _ rfl, I64.of_wf w5, hc 5 _ rfl, u6, v6, hc 6 _ rfl, r6⟩, n6⟩
theorem open_descC {N fuel : Nat} {cs : List Value} {x : DataW H × List MemPlace} (h : DataW.trod enc Tryz.prog W 0 (fun _ => true) true fuel 33 cs = some x) (hN : Rows.uptoBulk x.1 ≤ N) : ∃ D : Ds, DescAt W D cs.toArray ∧ D.Small ∧ (∀ f ∈ D.fms, f.pcs.length ≤ N ∧ ∀ p ∈ f.pcs, p.lit.size ≤ N) ∧ ∀ c ∈ D.cls, c.ex.length ≤ N := by
 obtain ⟨n', _, hl, hf⟩ := open_fieldsB Tryz.underlying33 h
 rw [cells_desc] at hl
 match cs, hl with
 | [c0, c1, c2, c3, c4, c5, c6, c7, c8, c9, c10, c11, c12], _ =>
   obtain ⟨s0, e0, _⟩ := open_fstr Tryz.underlying9 (hfx hf 0 _ 0 1 _ rfl rfl cells_str rfl)
   obtain ⟨n1, e1, w1⟩ := open_fint Tryz.underlying3 (hfx hf 1 _ 1 1 _ rfl rfl cells_int rfl)
   obtain ⟨y2, z2, b2⟩ := hf 2 _ 2 1 _ rfl rfl cells_d2 rfl
   obtain ⟨A2, l2, k2, e2, u2, v2, r2⟩ := Opens.row Tryz.underlying22 cells_file (by decide) (opens_file n') (Nat.le_refl _) z2
   obtain ⟨y3, z3, b3⟩ := hf 3 _ 3 1 _ rfl rfl cells_d3 rfl
   obtain ⟨A3, l3, k3, e3, u3, v3, r3⟩ := Opens.row Tryz.underlying23 cells_alias (by decide) (opens_alias n') (Nat.le_refl _) z3
   obtain ⟨y5, z5, b5⟩ := hf 5 _ 5 1 _ rfl rfl cells_d5 rfl
   obtain ⟨A5, l5, k5, e5, u5, v5, _, r5⟩ := OpensB.row Tryz.underlying25 cells_class (by decide) (opensB_class n' N) (Nat.le_refl _) z5 (Nat.le_trans b5 hN)
   obtain ⟨y6, z6, b6⟩ := hf 6 _ 6 1 _ rfl rfl cells_d6 rfl
   obtain ⟨A6, l6, k6, e6, u6, v6, _, r6⟩ := OpensB.row Tryz.underlying26 cells_form (by decide) (opensB_form n' N) (Nat.le_refl _) z6 (Nat.le_trans b6 hN)
   obtain ⟨y7, z7, b7⟩ := hf 7 _ 7 1 _ rfl rfl cells_d7 rfl
   obtain ⟨A7, l7, k7, e7, u7, v7, r7⟩ := Opens.row Tryz.underlying27 cells_rel (by decide) (opens_rel n') (Nat.le_refl _) z7
   obtain ⟨y8, z8, b8⟩ := hf 8 _ 8 1 _ rfl rfl cells_d8 rfl
   obtain ⟨A8, l8, k8, e8, u8, v8, r8⟩ := Opens.row Tryz.underlying28 cells_use (by decide) (opens_use n') (Nat.le_refl _) z8
   obtain ⟨y9, z9, b9⟩ := hf 9 _ 9 1 _ rfl rfl cells_d9 rfl
   obtain ⟨A9, l9, k9, e9, u9, v9, r9⟩ := Opens.row Tryz.underlying29 cells_relaxed (by decide) (opens_relaxed n') (Nat.le_refl _) z9
   obtain ⟨y10, z10, b10⟩ := hf 10 _ 10 1 _ rfl rfl cells_d10 rfl
   obtain ⟨A10, l10, k10, e10, u10, v10, r10⟩ := Opens.row Tryz.underlying30 cells_macro (by decide) (opens_macro n') (Nat.le_refl _) z10
   obtain ⟨y12, z12, b12⟩ := hf 12 _ 12 1 _ rfl rfl cells_d12 rfl
   obtain ⟨A12, l12, k12, e12, u12, v12, r12⟩ := Opens.row Tryz.underlying23 cells_alias (by decide) (opens_alias n') (Nat.le_refl _) z12
   obtain ⟨A4, l4, k4, e4, u4, v4⟩ := open_fslice Tryz.underlying24 (hfx hf 4 _ 4 1 _ rfl rfl cells_d4 rfl)
   obtain ⟨A11, l11, k11, e11, u11, v11⟩ := open_fslice Tryz.underlying31 (hfx hf 11 _ 11 1 _ rfl rfl cells_d11 rfl)
   simp only [List.drop_zero, List.drop_succ_cons, List.take_succ_cons, List.take_zero, List.cons.injEq, and_true] at e0 e1 e2 e3 e4 e5 e6 e7 e8 e9 e10 e11 e12
   subst e0 e1 e2 e3 e4 e5 e6 e7 e8 e9 e10 e11 e12
   exact ⟨⟨n1, l2, l3, l4, l5, l6, l7, l8, l9, l10, l12⟩, ⟨s0, A2, A3, A4, A5, A6, A7, A8, A9, A10, A11, A12, k2, k3, k4, k5, k6, k7, k8, k9, k10, l11, k11, k12, rfl, r2, r3, rowAnd_row r5, rowAnd_row r6, r7, r8, r9, r10, r12⟩,
     ⟨Nat.le_trans u2 v2, Nat.le_trans u3 v3, Nat.le_trans u4 v4, Nat.le_trans u5 v5, Nat.le_trans u6 v6, Nat.le_trans u7 v7, Nat.le_trans u8 v8, Nat.le_trans u9 v9, Nat.le_trans u10 v10, Nat.le_trans u12 v12⟩, rowAnd_all r6, rowAnd_all r5⟩
end
end Go.Proofs.YtdipnhghdajplaaGreatDoor
