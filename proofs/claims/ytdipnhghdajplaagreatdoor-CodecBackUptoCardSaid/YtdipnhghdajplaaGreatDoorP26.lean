/- A round over a form's operands: the operand is appended (the region that draws). -/
import Derived.Test.YtdipnhghdajplaaGreatDoorP14
import Derived.Test.YtdipnhghdajplaaGreatDoorP24
import Derived.Test.YtdipnhghdajplaaGreatDoorP25
import Derived.Laws.MakeOwn
import Derived.Deep.RegionHeld3
namespace Go.Proofs.YtdipnhghdajplaaGreatDoor
open Go.RowKit
set_option linter.unusedSimpArgs false
set_option linter.unusedVariables false
def findR (k : Nat) : Code → Option (Array Oper)
 | .region i ops _ => if i == k then some ops else none
 | .seq a b => match findR k a with
   | some c => some c
   | none => findR k b
 | .block _ c => findR k c
 | .loop c => findR k c
 | .cond _ a b => match findR k a with
   | some c => some c
   | none => findR k b
 | _ => none
noncomputable def reg6 : Array Oper := ((Tryz.f44.body.bind (findR 6)).getD #[])
theorem wpHead_go {P : Program} {ops : Array Oper} {Q : Exit → Act → World → Prop} {md : Region.Mode} {S : World → Prop} {n i : Nat} {oi : Oper} {L : Array Bool → Act → World → Prop} {f : Nat} {listed : Array Bool} {a : Act} {w : World} (hi : ops[i]? = some oi)
   (hr : Region.ready md ops listed = [i]) (hin : i < n) (hg : oi.guard = none)
   (h : ∀ K : Act → World → Prop, (∀ a' w', S w' → wpHead P md ops Q S n L f (listed.setIfInBounds i true) a' w' → K a' w') → oi.wp P a w K Q) : wpHead P md ops Q S n L (f + 1) listed a w := by
 refine wpHead_one hr hin ?_
 unfold wpOp
 simp only [hi, Region.wanted, hg, if_true]
 exact .inl (h _ fun _ _ h1 h2 => ⟨h1, h2⟩)
theorem Tryz.infoI : (Tryz.prog.info? 3).map (fun i => (i.zero, i.size, i.bytes)) = some (some (.int .i64 0), 1, 8) := by kernel_rfl
theorem Tryz.infoO : (Tryz.prog.info? 163).map (fun i => (i.zero, i.size, i.bytes)) = some (some (.agg #[.string ⟨#[]⟩, .int .i64 0, .int .i64 0, .int .i64 0, .int .i64 0, .int .i64 0, .slice none 0 0, .slice none 0 0]), 8, 104) := by kernel_rfl
theorem mk_ints (n : Nat) (hn : n ≤ 64) (w : World) : (Instr.makeSlice 46 (.int .i64 (n : Int)) (.int .i64 (n : Int))).run Tryz.prog w = .ok (.slice (some ⟨w.heap.size, 0, none⟩) n n) (w.alloc (.cells (madeCells #[.int .i64 0] n) 3)) := by
 obtain ⟨i, hi', hz0, hz1, hz2⟩ := info_parts Tryz.infoI
 have := run_make (P := Tryz.prog) w 46 3 i _ Tryz.underlying46 hi' hz0 .i64 .i64 n n (by omega) (Int.le_refl _) (by rw [hz2]; omega) (by omega)
 rw [hz1] at this
 simpa [Value.cells] using this
theorem add_zero_k2 (g k : Nat) : (⟨g, 0, none⟩ : Addr).add k = ⟨g, k, none⟩ := by unfold Addr.add; by_cases h0 : k = 0 <;> simp [h0]
theorem grew_cell {w w' : World} {row : Option Nat} {b o : Nat} {v : Value} (k : w.grownBy w' row) (hb : row ≠ some b) (h : w.cell? ⟨b, o, none⟩ = some v) : w'.cell? ⟨b, o, none⟩ = some v :=
 (cell_of_heap (World.grownBy.block k b (lt_of_cell h) (fun e => hb e.symm))).trans h
theorem grew_free {w w' : World} {row : Option Nat} {b o : Nat} {v : Value} (k : w.grownBy w' row) (hb : row ≠ some b) (h : w.cell? ⟨b, o, none⟩ = some v) (hf : w.frozen? ⟨b, o, none⟩ = false) : w'.frozen? ⟨b, o, none⟩ = false := by
 have e := World.grownBy.block k b (lt_of_cell h) (fun e => hb e.symm)
 simpa [World.frozen?, e] using hf
set_option maxHeartbeats 6400000 in
set_option maxRecDepth 100000 in
theorem lay6 {Q : Exit → Act → World → Prop} (df : List Deferred) (u0 u1 u2 u3 u4 u6 u7 u9 u10 u11 u12 u13 u14 u15 u16 u17 u18 u19 u20 u21 u22 u23 u24 u25 u26 u27 u28 u29 u30 u31 u32 u33 u34 u35 u36 u37 u38 u39 u40 u41 u42 u43 u44 u45 u46 u47 u48 u49 u50 u51 u52 u53 u54 u55 u56 u57 u58 u59 u60 u61 u62 u63 u64 u65 u66 u67 u68 : Value) (lb cb bits : Nat) (n0 : ByteArray) (kind file shift plus : Int) (E O : Option Addr) (el ec ol oc : Nat) {w : World} (hb : bits ≤ 64)
   (c4 : w.cell? ⟨lb, 4, none⟩ = some (.slice O ol oc)) (hB : BlkAt w cb [.string n0, .int .i64 kind, .int .i64 file, .int .i64 (bits : Int), .int .i64 shift, .int .i64 plus, .slice E el ec])
   (base : Nat) (xs : List Value) (hown : w.ownsRow base 163 8 (.slice O ol oc) ol xs) (hol : ol ≤ 5) (hlb : lb < base) (hbw : base ≤ w.heap.size) (f4 : w.frozen? ⟨lb, 4, none⟩ = false)
   (hT : ∀ (g cap : Nat) (w' : World) (x27 x28 x29 x30 x31 x32 x33 x34 x35 x36 : Value), GrewK (((w.alloc (.cells (madeCells #[.int .i64 0] bits) 3)).alloc (.cells #[.string n0, .int .i64 kind, .int .i64 file, .int .i64 (bits : Int), .int .i64 shift, .int .i64 plus, .slice E el ec, .slice (some ⟨w.heap.size, 0, none⟩) bits bits] 163)).drew) base 163 8 (.slice O ol oc) (ol + 1) (xs ++ [.string n0, .int .i64 kind, .int .i64 file, .int .i64 (bits : Int), .int .i64 shift, .int .i64 plus, .slice E el ec, .slice (some ⟨w.heap.size, 0, none⟩) bits bits]) (.slice (some ⟨g, 0, none⟩) (ol + 1) cap) w' → Q .normal ⟨#[u0, u1, u2, u3, u4, .pointer (some ⟨lb, 0, none⟩), u6, u7, .pointer (some ⟨cb, 0, none⟩), u9, u10, u11, u12, u13, u14, u15, u16, u17, u18, u19, u20, u21, u22, u23, u24, u25, u26, x27, x28, x29, x30, x31, x32, x33, x34, x35, x36, u37, u38, u39, u40, u41, u42, u43, u44, u45, u46, u47, u48, u49, u50, u51, u52, u53, u54, u55, u56, u57, u58, u59, u60, u61, u62, u63, u64, u65, u66, u67, u68], df⟩ (w'.setCell ⟨lb, 4, none⟩ (.slice (some ⟨g, 0, none⟩) (ol + 1) cap)))
   : (Code.region 6 reg6 true).wp Tryz.prog Q ⟨#[u0, u1, u2, u3, u4, .pointer (some ⟨lb, 0, none⟩), u6, u7, .pointer (some ⟨cb, 0, none⟩), u9, u10, u11, u12, u13, u14, u15, u16, u17, u18, u19, u20, u21, u22, u23, u24, u25, u26, u27, u28, u29, u30, u31, u32, u33, u34, u35, u36, u37, u38, u39, u40, u41, u42, u43, u44, u45, u46, u47, u48, u49, u50, u51, u52, u53, u54, u55, u56, u57, u58, u59, u60, u61, u62, u63, u64, u65, u66, u67, u68], df⟩ w := by
 have b0 := hB 0 _ rfl; have b1 := hB 1 _ rfl; have b2 := hB 2 _ rfl; have b3 := hB 3 _ rfl; have b4 := hB 4 _ rfl; have b5 := hB 5 _ rfl; have b6 := hB 6 _ rfl
 conv => arg 2; arg 2; whnf
 refine wp_region_noPanic ?_
 refine wp_region_head (n := 8) (S := Fr w) (by kernel_rfl) (by decide) ?_
 have HD : Fr w w.drew := Fr.drew (Fr.refl w)
 have hb0 : (0 : Int) ≤ (bits : Int) := by omega
 have hb6 : (bits : Int) ≤ 64 := by omega
 simp only [List.size_toArray, List.length_cons, List.length_nil, Nat.reduceAdd]
 have take4 : ∀ w', Fr w w' → w'.cell? ⟨lb, 4, none⟩ = some (.slice O ol oc) := fun w' h => h.get c4
 refine wpHead_take (i := 0) (v := ?_) rfl (by kernel_rfl) (fun _ _ _ h => h) (Or.inl ⟨by rfl, ?hy0⟩) HD ?rest0
 case hy0 => (intro w' hw'; go_simp) <;> (try with_reducible rfl)
 (try simp only [Act.put, List.getElem_toArray, List.getElem_cons_zero, List.getElem_cons_succ, List.setIfInBounds_toArray, List.set_cons_zero, List.set_cons_succ])
 refine wpHead_take (i := 1) (v := ?_) rfl (by kernel_rfl) (fun _ _ _ h => h) (Or.inl ⟨by rfl, ?hy1⟩) HD ?rest1
 case hy1 => (intro w' hw'; have := take4 w' hw'; go_simp) <;> (try with_reducible rfl)
 (try simp only [Act.put, List.getElem_toArray, List.getElem_cons_zero, List.getElem_cons_succ, List.setIfInBounds_toArray, List.set_cons_zero, List.set_cons_succ])
 refine wpHead_take (i := 2) (v := ?_) rfl (by kernel_rfl) (fun _ _ _ h => h) (Or.inl ⟨by rfl, ?hy2⟩) HD ?rest2
 case hy2 => (intro w' hw'; have d0 := hw'.get b0; have d1 := hw'.get b1; have d2 := hw'.get b2; have d3 := hw'.get b3; have d4 := hw'.get b4; have d5 := hw'.get b5; have d6 := hw'.get b6; go_simp) <;> (try with_reducible rfl)
 (try simp only [Act.put, List.getElem_toArray, List.getElem_cons_zero, List.getElem_cons_succ, List.setIfInBounds_toArray, List.set_cons_zero, List.set_cons_succ])
 refine wpHead_take (i := 3) (v := ?_) rfl (by kernel_rfl) (fun _ _ _ h => h) (Or.inl ⟨by rfl, ?hy3⟩) HD ?rest3
 case hy3 => (intro w' hw'; go_simp) <;> (try with_reducible rfl)
 (try simp only [Act.put, List.getElem_toArray, List.getElem_cons_zero, List.getElem_cons_succ, List.setIfInBounds_toArray, List.set_cons_zero, List.set_cons_succ])
 refine wpHead_take (i := 4) (v := ?_) rfl (by kernel_rfl) (fun _ _ _ h => h) (Or.inl ⟨by rfl, ?hy4⟩) HD ?rest4
 case hy4 => (intro w' hw'; have d3 := hw'.get b3; go_simp) <;> (try with_reducible rfl)
 (try simp only [Act.put, List.getElem_toArray, List.getElem_cons_zero, List.getElem_cons_succ, List.setIfInBounds_toArray, List.set_cons_zero, List.set_cons_succ])
 clear take4 b0 b1 b2 b3 b4 b5 b6 hB
 refine wpHead_go (i := 5) rfl (by kernel_rfl) (by decide) rfl (fun K hK => ?_)
 have hm := mk_ints bits hb w.drew
 go_simp
 clear hm
 refine hK _ _ ?_ ?_
 · exact Fr.alloc HD _
 try simp only [Act.put, List.getElem_toArray, List.getElem_cons_zero, List.getElem_cons_succ, List.setIfInBounds_toArray, List.set_cons_zero, List.set_cons_succ]
 clear hK K
 have HD1 := Fr.alloc HD (.cells (madeCells #[.int .i64 0] bits) 3)
 refine wpHead_go (i := 6) rfl (by kernel_rfl) (by decide) rfl (fun K hK => ?_)
 go_simp
 refine hK _ _ HD1 ?_
 try simp only [Act.put, List.getElem_toArray, List.getElem_cons_zero, List.getElem_cons_succ, List.setIfInBounds_toArray, List.set_cons_zero, List.set_cons_succ]
 clear hK K
 refine wpHead_go (i := 7) rfl (by kernel_rfl) (by decide) rfl (fun K hK => ?_)
 go_simp
 have HF := Fr.drew (Fr.alloc (Fr.alloc (Fr.refl w) (.cells (madeCells #[.int .i64 0] bits) 3)) (.cells #[.string n0, .int .i64 kind, .int .i64 file, .int .i64 (bits : Int), .int .i64 shift, .int .i64 plus, .slice E el ec, .slice (some ⟨w.heap.size, 0, none⟩) bits bits] 163))
 refine hK _ _ HF ?_
 clear hK K
 refine wpHead_done (by kernel_rfl) ?_
 simp only [List.drop_succ_cons, List.drop_zero]
 have hown2 : (((w.alloc (.cells (madeCells #[.int .i64 0] bits) 3)).alloc (.cells #[.string n0, .int .i64 kind, .int .i64 file, .int .i64 (bits : Int), .int .i64 shift, .int .i64 plus, .slice E el ec, .slice (some ⟨w.heap.size, 0, none⟩) bits bits] 163)).drew).ownsRow base 163 8 (.slice O ol oc) ol xs := by
   refine hown.kept (row := none) ⟨HF.os, HF.tape, HF.output, HF.size, fun i hi _ => HF.block i hi⟩ ?_
   cases hv : (Value.slice O ol oc).ownBlock
   · exact .inl rfl
   · exact .inr (by simp)
 have c42 := HF.get c4
 have f42 := HF.free c4 f4
 have hne : (Value.slice O ol oc).ownBlock ≠ some lb := fun h => by
   have := (World.ownsRow.lt hown lb h).1
   omega
 have hz : (((w.alloc (.cells (madeCells #[.int .i64 0] bits) 3)).alloc (.cells #[.string n0, .int .i64 kind, .int .i64 file, .int .i64 (bits : Int), .int .i64 shift, .int .i64 plus, .slice E el ec, .slice (some ⟨w.heap.size, 0, none⟩) bits bits] 163)).drew).heap.size = w.heap.size + 2 := by simp
 refine wpList_appendk _ rfl (.tmp 28) (.tmp 34) 114 rfl base 163 8 Tryz.underlying114 Tryz.infoO rfl (by decide) (.slice O ol oc) ol xs rfl hown2 (some ⟨w.heap.size + 1, 0, none⟩) 1 1 [.string n0, .int .i64 kind, .int .i64 file, .int .i64 (bits : Int), .int .i64 shift, .int .i64 plus, .slice E el ec, .slice (some ⟨w.heap.size, 0, none⟩) bits bits] rfl rfl ?_ (fun h => by cases h) ?_ ?_ ?_ ?_ ?_
 · intro _
   refine ⟨_, rfl, fun j u hj => ?_⟩
   rw [add_zero_k2]
   have hb := BlkAt.alloc (w := w.alloc (.cells (madeCells #[.int .i64 0] bits) 3)) (t := 163) (cs := #[.string n0, .int .i64 kind, .int .i64 file, .int .i64 (bits : Int), .int .i64 shift, .int .i64 plus, .slice E el ec, .slice (some ⟨w.heap.size, 0, none⟩) bits bits])
   rw [show (w.alloc (.cells (madeCells #[.int .i64 0] bits) 3)).heap.size = w.heap.size + 1 by simp] at hb
   exact hb.fr (Fr.drew (Fr.refl _)) j u hj
 · intro u hu
   simp only [List.mem_cons, List.not_mem_nil, or_false] at hu
   rcases hu with rfl | rfl | rfl | rfl | rfl | rfl | rfl | rfl <;> rfl
 · exact Nat.le_trans (show ol + 1 ≤ 6 by omega) (by decide)
 · omega
 · rw [hz]; omega
 · intro v' w' hg
   have hgr := hg.out
   rcases hgr.1.2 with ⟨_, hn⟩ | ⟨g, cap, cur, rfl, _⟩
   · omega
   have HG := hg
   have c43 := grew_cell hgr.2.1 hne c42
   have f43 := grew_free hgr.2.1 hne c42 f42
   have HT := Lib.hid hT
   clear hg hgr hown hown2 c4 c42 f4 f42 hT
   generalize ((w.alloc (.cells (madeCells #[.int .i64 0] bits) 3)).alloc (.cells #[.string n0, .int .i64 kind, .int .i64 file, .int .i64 (bits : Int), .int .i64 shift, .int .i64 plus, .slice E el ec, .slice (some ⟨w.heap.size, 0, none⟩) bits bits] 163)).drew = W at *
   simp only [Act.put, List.getElem_toArray, List.getElem_cons_zero, List.getElem_cons_succ, List.setIfInBounds_toArray, List.set_cons_zero, List.set_cons_succ]
   go_wp2
   refine NoPanic.normal ?_
   exact HT.out _ _ _ _ _ _ _ _ _ _ _ _ _ HG.out
end Go.Proofs.YtdipnhghdajplaaGreatDoor
