/- The operands of a layout in memory, and what another append leaves of them. -/
import Derived.Test.YtdipnhghdajplaaGreatDoorP26
import Derived.Test.YtdipnhghdajplaaGreatDoorP22
namespace Go.Proofs.YtdipnhghdajplaaGreatDoor
open Go.RowKit
set_option linter.unusedSimpArgs false
set_option linter.unusedVariables false
structure Od where
 (x : Cl)
 (n0 : ByteArray)
 (E : Option Addr)
 (ec g : Nat)
def odC (o : Od) : List Value := [.string o.n0, .int .i64 o.x.kind, .int .i64 o.x.file, .int .i64 o.x.bits, .int .i64 o.x.shift, .int .i64 o.x.plus, .slice o.E o.x.ex.length o.ec, .slice (some ⟨o.g, 0, none⟩) o.x.bits.toNat o.x.bits.toNat]
def flatO (os : List Od) : List Value := os.flatMap odC
theorem flatO_snoc (os : List Od) (o : Od) : flatO (os ++ [o]) = flatO os ++ odC o := by simp [flatO]
structure OdAt (base : Nat) (wr : World) (sv : Value) (o : Od) : Prop where
 old : base ≤ o.g
 lt : o.g < wr.heap.size
 own : sv.ownBlock ≠ some o.g
 cell : ∀ k, k < o.x.bits.toNat → wr.cell? ⟨o.g, k, none⟩ = some (.int .i64 0)
 free : ∀ k, wr.frozen? ⟨o.g, k, none⟩ = false
structure OpsAt (lb base : Nat) (wr : World) (O : Option Addr) (oc : Nat) (os : List Od) : Prop where
 blk : BlkAt wr lb [.int .u64 0, .int .u64 0, .int .u64 0, .int .u64 0, .slice O os.length oc]
 free : ∀ k, wr.frozen? ⟨lb, k, none⟩ = false
 row : wr.ownsRow base 163 8 (.slice O os.length oc) os.length (flatO os)
 apart : (os.map (·.g)).Nodup
 all : ∀ o ∈ os, OdAt base wr (.slice O os.length oc) o
theorem froz_heap {w w' : World} {b o : Nat} (e : w'.heap[b]? = w.heap[b]?) : w'.frozen? ⟨b, o, none⟩ = w.frozen? ⟨b, o, none⟩ := by
 simp [World.frozen?, e]
theorem lay_heap {W w' : World} {row : Option Nat} {lb b : Nat} {x : Value} (hg : W.grownBy w' row) (hb : row ≠ some b) (hl : b ≠ lb) (hlt : b < W.heap.size) : (w'.setCell ⟨lb, 4, none⟩ x).heap[b]? = W.heap[b]? :=
 (Below.heap_setCell w' ⟨lb, 4, none⟩ x b hl).trans (World.grownBy.block hg b hlt (fun e => hb e.symm))
theorem OdAt.next {base lb : Nat} {wr W w' : World} {sv sv' : Value} {o : Od} {x : Value} (h : OdAt base wr sv o) (k : Fr wr W) (hg : W.grownBy w' sv.ownBlock) (hlb : lb < base) (hn : sv'.ownBlock = sv.ownBlock ∨ sv'.ownBlock = some W.heap.size) :
   OdAt base (w'.setCell ⟨lb, 4, none⟩ x) sv' o := by
 have e := lay_heap (x := x) hg h.own (by have := h.old; omega : o.g ≠ lb) (Nat.lt_of_lt_of_le h.lt k.size)
 refine ⟨h.old, ?_, ?_, fun i hi => ?_, fun i => ?_⟩
 · have := h.lt; have := k.size; have := hg.size
   simp; omega
 · rcases hn with hn | hn
   · rw [hn]; exact h.own
   · rw [hn]; intro h2; injection h2 with h2; have := h.lt; have := k.size; omega
 · exact (cell_of_heap e).trans (k.get (h.cell i hi))
 · exact (froz_heap e).trans ((k.cells.2.1 _ i h.lt).trans (h.free i))
theorem made_get (n i : Nat) (h : i < n) : (madeCells #[.int .i64 0] n).toList[i]? = some (.int .i64 0) := by
 have : i < (madeCells #[Value.int .i64 0] n).size := by rw [size_madeCells]; exact h
 rw [Array.getElem?_toList, Array.getElem?_eq_getElem this]
 simp [madeCells, Nat.mod_one]
theorem OpsAt.next {lb base bn g cap oc : Nat} {wr W6 w' : World} {O : Option Addr} {os : List Od} {od : Od} (h : OpsAt lb base wr O oc os) (k : Fr wr W6) (hog : od.g = W6.heap.size) (hbn : od.x.bits.toNat = bn) (hlb : lb < base) (hbase : base ≤ wr.heap.size)
   (hg : GrewK ((W6.alloc (.cells (madeCells #[.int .i64 0] bn) 3)).alloc (.cells (odC od).toArray 163)).drew base 163 8 (.slice O os.length oc) (os.length + 1) (flatO os ++ odC od) (.slice (some ⟨g, 0, none⟩) (os.length + 1) cap) w') :
   OpsAt lb base (w'.setCell ⟨lb, 4, none⟩ (.slice (some ⟨g, 0, none⟩) (os.length + 1) cap)) (some ⟨g, 0, none⟩) cap (os ++ [od]) := by
 have k1 : Fr W6 (((W6.alloc (.cells (madeCells #[.int .i64 0] bn) 3)).alloc (.cells (odC od).toArray 163)).drew) := Fr.drew (Fr.alloc (Fr.alloc (Fr.refl W6) _) _)
 have hsz : (((W6.alloc (.cells (madeCells #[.int .i64 0] bn) 3)).alloc (.cells (odC od).toArray 163)).drew).heap.size = W6.heap.size + 2 := by simp
 have km : BlkAt (((W6.alloc (.cells (madeCells #[.int .i64 0] bn) 3)).alloc (.cells (odC od).toArray 163)).drew) W6.heap.size (madeCells #[.int .i64 0] bn).toList := BlkAt.fr BlkAt.alloc (Fr.drew (Fr.alloc (Fr.refl _) _))
 have kf : ∀ i, (((W6.alloc (.cells (madeCells #[.int .i64 0] bn) 3)).alloc (.cells (odC od).toArray 163)).drew).frozen? ⟨W6.heap.size, i, none⟩ = false := fun i => by
   have e : (((W6.alloc (.cells (madeCells #[.int .i64 0] bn) 3)).alloc (.cells (odC od).toArray 163)).drew).frozen? ⟨W6.heap.size, i, none⟩ = (W6.alloc (.cells (madeCells #[.int .i64 0] bn) 3)).frozen? ⟨W6.heap.size, i, none⟩ := (Fr.drew (Fr.alloc (Fr.refl (W6.alloc (.cells (madeCells #[.int .i64 0] bn) 3))) _)).cells.2.1 _ i (by simp)
   rw [e]; exact World.frozen?_alloc_at _ _ _ _ rfl
 generalize (((W6.alloc (.cells (madeCells #[.int .i64 0] bn) 3)).alloc (.cells (odC od).toArray 163)).drew) = W at *
 have k7 := k.call k1
 have hk := k.size
 have hw := hg.2.1.size
 have hne : (Value.slice O os.length oc).ownBlock ≠ some lb := fun e => by
   have := (World.ownsRow.lt h.row lb e).1
   omega
 have hlw : lb < W.heap.size := by omega
 have el : w'.heap[lb]? = W.heap[lb]? := World.grownBy.block hg.2.1 lb hlw (fun e => hne e.symm)
 have hlen : (os ++ [od]).length = os.length + 1 := by simp
 refine ⟨?_, ?_, ?_, ?_, ?_⟩
 · intro i v hv
   have c4 := h.blk 4 _ rfl
   have c4' := (cell_of_heap (o := 4) el).trans (k7.get c4)
   rw [hlen] at hv
   match i, hv with
   | 0, hv => rw [World.cell?_setCell_other _ _ _ _ (by simp)]; exact (cell_of_heap el).trans (k7.get (h.blk 0 v hv))
   | 1, hv => rw [World.cell?_setCell_other _ _ _ _ (by simp)]; exact (cell_of_heap el).trans (k7.get (h.blk 1 v hv))
   | 2, hv => rw [World.cell?_setCell_other _ _ _ _ (by simp)]; exact (cell_of_heap el).trans (k7.get (h.blk 2 v hv))
   | 3, hv => rw [World.cell?_setCell_other _ _ _ _ (by simp)]; exact (cell_of_heap el).trans (k7.get (h.blk 3 v hv))
   | 4, hv => obtain rfl : _ = v := Option.some.inj hv; exact World.cell?_setCell_same _ _ _ c4'
   | n + 5, hv => simp at hv
 · intro i
   rw [World.frozen?_setCell, froz_heap el, k7.cells.2.1 _ i (lt_of_cell (h.blk 4 _ rfl))]
   exact h.free i
 · rw [hlen, flatO_snoc]
   refine hg.1.kept (row := some lb) ⟨rfl, rfl, rfl, by simp, fun k _ hn => Below.heap_setCell w' ⟨lb, 4, none⟩ _ k (fun e => hn (congrArg some e))⟩ (.inr fun e => ?_)
   have := (World.ownsRow.lt hg.1 lb e).1
   omega
 · rw [List.map_append, List.nodup_append]
   refine ⟨h.apart, by simp, fun a ha b hb => ?_⟩
   obtain ⟨o, ho, rfl⟩ := List.mem_map.1 ha
   obtain rfl : b = od.g := by simpa using hb
   have := (h.all o ho).lt
   omega
 · rw [hlen]
   intro o ho
   rcases List.mem_append.1 ho with ho | ho
   · exact (h.all o ho).next k7 hg.2.1 hlb hg.2.2
   · obtain rfl : o = od := by simpa using ho
     have e := lay_heap (x := .slice (some ⟨g, 0, none⟩) (os.length + 1) cap) (lb := lb) (b := o.g) hg.2.1 (fun e => by have := (World.ownsRow.lt h.row _ e).2; omega) (by omega) (by omega)
     refine ⟨by omega, by simp; omega, fun e2 => ?_, fun i hi => ?_, fun i => ?_⟩
     · rcases hg.2.2 with h2 | h2
       · have := (World.ownsRow.lt h.row _ (h2.symm.trans e2)).2; omega
       · rw [h2] at e2; injection e2 with e2; omega
     · rw [cell_of_heap e, hog]; exact km i _ (made_get _ _ (by omega))
     · rw [froz_heap e, hog]; exact kf i
structure OdX (D : Ds) (args : List Int) (w : World) (i : Nat) (o : Od) : Prop where
 cls : ∃ c : Nat, args[i]? = some (c : Int) ∧ D.cls[c]? = some o.x ∧ clsB D o.x = true ∧ 1 ≤ o.x.bits ∧ o.x.bits ≤ 64
 rng : I64 o.x.kind ∧ I64 o.x.file ∧ I64 o.x.bits ∧ I64 o.x.shift ∧ I64 o.x.plus ∧ o.x.ex.length ≤ o.ec ∧ o.ec ≤ maxLen
 row : RowOf IntAt 1 w o.E o.x.ex
theorem ownsRow_fr {w w' : World} {base : Nat} {e : TypeId} {size n : Nat} {v : Value} {xs : List Value} (h : w.ownsRow base e size v n xs) (k : Fr w w') : w'.ownsRow base e size v n xs := by
 refine World.ownsRow.kept h (row := none) ⟨k.os, k.tape, k.output, k.size, fun i hi _ => k.block i hi⟩ ?_
 cases hv : v.ownBlock
 · exact .inl rfl
 · exact .inr (by simp)
theorem Fr.grown {a b c : World} {row : Option Nat} (h : Fr a b) (hg : b.grownBy c row) (hr : ∀ k, row = some k → a.heap.size ≤ k) : Fr a c :=
 ⟨hg.os.trans h.os, hg.tape.trans h.tape, hg.output.trans h.output, Nat.le_trans h.size hg.size, fun i hi => (hg.block i (Nat.lt_of_lt_of_le hi h.size) (fun e => by have := hr i e.symm; omega)).trans (h.block i hi)⟩
end Go.Proofs.YtdipnhghdajplaaGreatDoor
