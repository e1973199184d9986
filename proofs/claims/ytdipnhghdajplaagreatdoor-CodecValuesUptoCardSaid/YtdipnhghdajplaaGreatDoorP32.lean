/- The operands of a layout in memory, and what another append leaves of them. Where a form's bits lie, as plain functions; a layout in memory while its bits are laid. A form's bits, one after the other as they are written: which there are, and where its layout has them. -/
import Derived.Test.YtdipnhghdajplaaGreatDoorP31
import Derived.Test.YtdipnhghdajplaaGreatDoorP27
import Derived.Test.YtdipnhghdajplaaGreatDoorP29
import Derived.Test.YtdipnhghdajplaaGreatDoorP23
namespace Go.Proofs.YtdipnhghdajplaaGreatDoor
open Go.RowKit
set_option linter.unusedSimpArgs false
set_option linter.unusedVariables false

/-- An operand that lay makes: its class, the class's name and row, the block of its bits' places. -/
structure Od where
  (x : Cl)
  (n0 : ByteArray)
  (E : Option Addr)
  (ec g : Nat)
def odC (o : Od) : List Value := [.string o.n0, .int .i64 o.x.kind, .int .i64 o.x.file, .int .i64 o.x.bits, .int .i64 o.x.shift, .int .i64 o.x.plus, .slice o.E o.x.ex.length o.ec, .slice (some ⟨o.g, 0, none⟩) o.x.bits.toNat o.x.bits.toNat]
def flatO (os : List Od) : List Value := os.flatMap odC
theorem flatO_snoc (os : List Od) (o : Od) : flatO (os ++ [o]) = flatO os ++ odC o := by simp [flatO]
/-- What is known of an operand's block. -/
structure OdAt (base : Nat) (wr : World) (sv : Value) (o : Od) : Prop where
  old : base ≤ o.g
  lt : o.g < wr.heap.size
  own : sv.ownBlock ≠ some o.g
  cell : ∀ k, k < o.x.bits.toNat → wr.cell? ⟨o.g, k, none⟩ = some (.int .i64 0)
  free : ∀ k, wr.frozen? ⟨o.g, k, none⟩ = false
structure OpsAt (lb base : Nat) (wr : World) (O : Option Addr) (oc : Nat) (os : List Od) : Prop where
  blk : BlkAt wr lb [.int .u64 0, .int .u64 0, .int .u64 0, .int .u64 0, .slice O os.length oc]
  free : ∀ k, wr.frozen? ⟨lb, k, none⟩ = false
  row : wr.ownsRow base 163 8 (.slice O os.length oc) os.length (flatO os)
  apart : (os.map (·.g)).Nodup
  all : ∀ o ∈ os, OdAt base wr (.slice O os.length oc) o
theorem froz_heap {w w' : World} {b o : Nat} (e : w'.heap[b]? = w.heap[b]?) : w'.frozen? ⟨b, o, none⟩ = w.frozen? ⟨b, o, none⟩ := by
  simp [World.frozen?, e]
theorem lay_heap {W w' : World} {row : Option Nat} {lb b : Nat} {x : Value} (hg : W.grownBy w' row) (hb : row ≠ some b) (hl : b ≠ lb) (hlt : b < W.heap.size) : (w'.setCell ⟨lb, 4, none⟩ x).heap[b]? = W.heap[b]? :=
  (Below.heap_setCell w' ⟨lb, 4, none⟩ x b hl).trans (World.grownBy.block hg b hlt (fun e => hb e.symm))
theorem OdAt.next {base lb : Nat} {wr W w' : World} {sv sv' : Value} {o : Od} {x : Value} (h : OdAt base wr sv o) (k : Fr wr W) (hg : W.grownBy w' sv.ownBlock) (hlb : lb < base) (hn : sv'.ownBlock = sv.ownBlock ∨ sv'.ownBlock = some W.heap.size) :
    OdAt base (w'.setCell ⟨lb, 4, none⟩ x) sv' o := by
  have e := lay_heap (x := x) hg h.own (by have := h.old; omega : o.g ≠ lb) (Nat.lt_of_lt_of_le h.lt k.size)
  refine ⟨h.old, ?_, ?_, fun i hi => ?_, fun i => ?_⟩
  · have := h.lt; have := k.size; have := hg.size
    simp; omega
  · rcases hn with hn | hn
    · rw [hn]; exact h.own
    · rw [hn]; intro h2; injection h2 with h2; have := h.lt; have := k.size; omega
  · exact (cell_of_heap e).trans (k.get (h.cell i hi))
  · exact (froz_heap e).trans ((k.cells.2.1 _ i h.lt).trans (h.free i))
theorem made_get (n i : Nat) (h : i < n) : (madeCells #[.int .i64 0] n).toList[i]? = some (.int .i64 0) := by
  have : i < (madeCells #[Value.int .i64 0] n).size := by rw [size_madeCells]; exact h
  rw [Array.getElem?_toList, Array.getElem?_eq_getElem this]
  simp [madeCells, Nat.mod_one]
theorem OpsAt.next {lb base bn g cap oc : Nat} {wr W6 w' : World} {O : Option Addr} {os : List Od} {od : Od} (h : OpsAt lb base wr O oc os) (k : Fr wr W6) (hog : od.g = W6.heap.size) (hbn : od.x.bits.toNat = bn) (hlb : lb < base) (hbase : base ≤ wr.heap.size)
    (hg : GrewK ((W6.alloc (.cells (madeCells #[.int .i64 0] bn) 3)).alloc (.cells (odC od).toArray 163)).drew base 163 8 (.slice O os.length oc) (os.length + 1) (flatO os ++ odC od) (.slice (some ⟨g, 0, none⟩) (os.length + 1) cap) w') :
    OpsAt lb base (w'.setCell ⟨lb, 4, none⟩ (.slice (some ⟨g, 0, none⟩) (os.length + 1) cap)) (some ⟨g, 0, none⟩) cap (os ++ [od]) := by
  have k1 : Fr W6 (((W6.alloc (.cells (madeCells #[.int .i64 0] bn) 3)).alloc (.cells (odC od).toArray 163)).drew) := Fr.drew (Fr.alloc (Fr.alloc (Fr.refl W6) _) _)
  have hsz : (((W6.alloc (.cells (madeCells #[.int .i64 0] bn) 3)).alloc (.cells (odC od).toArray 163)).drew).heap.size = W6.heap.size + 2 := by simp
  have km : BlkAt (((W6.alloc (.cells (madeCells #[.int .i64 0] bn) 3)).alloc (.cells (odC od).toArray 163)).drew) W6.heap.size (madeCells #[.int .i64 0] bn).toList := BlkAt.fr BlkAt.alloc (Fr.drew (Fr.alloc (Fr.refl _) _))
  have kf : ∀ i, (((W6.alloc (.cells (madeCells #[.int .i64 0] bn) 3)).alloc (.cells (odC od).toArray 163)).drew).frozen? ⟨W6.heap.size, i, none⟩ = false := fun i => by
    have e : (((W6.alloc (.cells (madeCells #[.int .i64 0] bn) 3)).alloc (.cells (odC od).toArray 163)).drew).frozen? ⟨W6.heap.size, i, none⟩ = (W6.alloc (.cells (madeCells #[.int .i64 0] bn) 3)).frozen? ⟨W6.heap.size, i, none⟩ := (Fr.drew (Fr.alloc (Fr.refl (W6.alloc (.cells (madeCells #[.int .i64 0] bn) 3))) _)).cells.2.1 _ i (by simp)
    rw [e]; exact World.frozen?_alloc_at _ _ _ _ rfl
  generalize (((W6.alloc (.cells (madeCells #[.int .i64 0] bn) 3)).alloc (.cells (odC od).toArray 163)).drew) = W at *
  have k7 := k.call k1
  have hk := k.size
  have hw := hg.2.1.size
  have hne : (Value.slice O os.length oc).ownBlock ≠ some lb := fun e => by
    have := (World.ownsRow.lt h.row lb e).1
    omega
  have hlw : lb < W.heap.size := by omega
  have el : w'.heap[lb]? = W.heap[lb]? := World.grownBy.block hg.2.1 lb hlw (fun e => hne e.symm)
  have hlen : (os ++ [od]).length = os.length + 1 := by simp
  refine ⟨?_, ?_, ?_, ?_, ?_⟩
  · intro i v hv
    have c4 := h.blk 4 _ rfl
    have c4' := (cell_of_heap (o := 4) el).trans (k7.get c4)
    rw [hlen] at hv
    match i, hv with
    | 0, hv => rw [World.cell?_setCell_other _ _ _ _ (by simp)]; exact (cell_of_heap el).trans (k7.get (h.blk 0 v hv))
    | 1, hv => rw [World.cell?_setCell_other _ _ _ _ (by simp)]; exact (cell_of_heap el).trans (k7.get (h.blk 1 v hv))
    | 2, hv => rw [World.cell?_setCell_other _ _ _ _ (by simp)]; exact (cell_of_heap el).trans (k7.get (h.blk 2 v hv))
    | 3, hv => rw [World.cell?_setCell_other _ _ _ _ (by simp)]; exact (cell_of_heap el).trans (k7.get (h.blk 3 v hv))
    | 4, hv => obtain rfl : _ = v := Option.some.inj hv; exact World.cell?_setCell_same _ _ _ c4'
    | n + 5, hv => simp at hv
  · intro i
    rw [World.frozen?_setCell, froz_heap el, k7.cells.2.1 _ i (lt_of_cell (h.blk 4 _ rfl))]
    exact h.free i
  · rw [hlen, flatO_snoc]
    refine hg.1.kept (row := some lb) ⟨rfl, rfl, rfl, by simp, fun k _ hn => Below.heap_setCell w' ⟨lb, 4, none⟩ _ k (fun e => hn (congrArg some e))⟩ (.inr fun e => ?_)
    have := (World.ownsRow.lt hg.1 lb e).1
    omega
  · rw [List.map_append, List.nodup_append]
    refine ⟨h.apart, by simp, fun a ha b hb => ?_⟩
    obtain ⟨o, ho, rfl⟩ := List.mem_map.1 ha
    obtain rfl : b = od.g := by simpa using hb
    have := (h.all o ho).lt
    omega
  · rw [hlen]
    intro o ho
    rcases List.mem_append.1 ho with ho | ho
    · exact (h.all o ho).next k7 hg.2.1 hlb hg.2.2
    · obtain rfl : o = od := by simpa using ho
      have e := lay_heap (x := .slice (some ⟨g, 0, none⟩) (os.length + 1) cap) (lb := lb) (b := o.g) hg.2.1 (fun e => by have := (World.ownsRow.lt h.row _ e).2; omega) (by omega) (by omega)
      refine ⟨by omega, by simp; omega, fun e2 => ?_, fun i hi => ?_, fun i => ?_⟩
      · rcases hg.2.2 with h2 | h2
        · have := (World.ownsRow.lt h.row _ (h2.symm.trans e2)).2; omega
        · rw [h2] at e2; injection e2 with e2; omega
      · rw [cell_of_heap e, hog]; exact km i _ (made_get _ _ (by omega))
      · rw [froz_heap e, hog]; exact kf i
structure OdX (D : Ds) (args : List Int) (w : World) (i : Nat) (o : Od) : Prop where
  cls : ∃ c : Nat, args[i]? = some (c : Int) ∧ D.cls[c]? = some o.x ∧ clsB D o.x = true ∧ 1 ≤ o.x.bits ∧ o.x.bits ≤ 64
  rng : I64 o.x.kind ∧ I64 o.x.file ∧ I64 o.x.bits ∧ I64 o.x.shift ∧ I64 o.x.plus ∧ o.x.ex.length ≤ o.ec ∧ o.ec ≤ maxLen
  row : RowOf IntAt 1 w o.E o.x.ex
theorem ownsRow_fr {w w' : World} {base : Nat} {e : TypeId} {size n : Nat} {v : Value} {xs : List Value} (h : w.ownsRow base e size v n xs) (k : Fr w w') : w'.ownsRow base e size v n xs := by
  refine World.ownsRow.kept h (row := none) ⟨k.os, k.tape, k.output, k.size, fun i hi _ => k.block i hi⟩ ?_
  cases hv : v.ownBlock
  · exact .inl rfl
  · exact .inr (by simp)
theorem Fr.grown {a b c : World} {row : Option Nat} (h : Fr a b) (hg : b.grownBy c row) (hr : ∀ k, row = some k → a.heap.size ≤ k) : Fr a c :=
  ⟨hg.os.trans h.os, hg.tape.trans h.tape, hg.output.trans h.output, Nat.le_trans h.size hg.size, fun i hi => (hg.block i (Nat.lt_of_lt_of_le hi h.size) (fun e => by have := hr i e.symm; omega)).trans (h.block i hi)⟩
/-- A block of lay's own behind a round. -/
theorem lay_blk {W w' wr : World} {row : Option Nat} {lb b : Nat} {x : Value} {l : List Value} (h : BlkAt wr b l) (k : Fr wr W) (hg : W.grownBy w' row) (hb : row ≠ some b) (hl : b ≠ lb) (hlt : b < wr.heap.size) : BlkAt (w'.setCell ⟨lb, 4, none⟩ x) b l :=
  fun i v hv => (cell_of_heap (lay_heap hg hb hl (Nat.lt_of_lt_of_le hlt k.size))).trans (k.get (h i v hv))
end Go.Proofs.YtdipnhghdajplaaGreatDoor
namespace Go.Proofs.YtdipnhghdajplaaGreatDoor
open Go.RowKit
set_option linter.unusedSimpArgs false
set_option linter.unusedVariables false

/-- The place of a bit. -/
def plcN (o : Int) (wr bits : Nat) : Nat := if o = 1 then bits - 1 - wr else wr / 8 * 8 + 7 - wr % 8
theorem plcN_I {o : Int} {wr bits : Nat} (h : wr < bits) : plcI o wr bits = (plcN o wr bits : Int) := by
  unfold plcI plcN
  split
  · omega
  · rfl
theorem plcN_lt {o : Int} {wr bits : Nat} (h : wr < bits) (hb : bits ≤ 120) (h8 : bits % 8 = 0) : plcN o wr bits < 120 := by
  unfold plcN; split <;> omega
/-- A literal's letter, told from behind. -/
def chrN (p : Pc) (b : Nat) : Nat := if h : p.lit.size - 1 - b < p.lit.size then (p.lit[p.lit.size - 1 - b]).toNat else 0
def addZ (L : Ly) (q : Nat) : Ly := if q < 64 then { L with z0 := addN L.z0 q } else { L with z1 := addN L.z1 q }
def addU (L : Ly) (q : Nat) : Ly := if q < 64 then { L with u0 := addN L.u0 q } else { L with u1 := addN L.u1 q }
def putO (L : Ly) (k i q : Nat) : Ly := { L with ops := L.ops.modify k fun x => (x.1, x.2.set i (q : Int)) }
/-- A bit of a piece is laid at a place. -/
def putL (p : Pc) (b q : Nat) (L : Ly) : Ly := if p.arg = -1 then (if chrN p b = 48 then addZ L q else if chrN p b = 49 then addU L q else L) else putO L p.arg.toNat (p.lo.toNat + b) q
/-- A piece's bits, the highest first. -/
def layP (o : Int) (bits : Nat) (p : Pc) : Nat → Nat → Ly → Ly
  | 0, _, L => L
  | b + 1, wr, L => layP o bits p b (wr + 1) (putL p b (plcN o wr bits) L)
def layL (o : Int) (bits : Nat) (D : Ds) (args : List Int) : List Pc → Nat → Ly → Ly
  | [], _, L => L
  | p :: r, wr, L => layL o bits D args r (wr + pcN D args p) (layP o bits p (pcN D args p) wr L)
def op0 (D : Ds) (c : Int) : Cl × List Int := ((D.cls[c.toNat]?).getD ⟨0, 0, 0, 0, 0, []⟩, List.replicate ((D.cls[c.toNat]?).getD ⟨0, 0, 0, 0, 0, []⟩).bits.toNat 0)
def lay0 (D : Ds) (args : List Int) : Ly := ⟨0, 0, 0, 0, args.map (op0 D)⟩
/-- A form's layout. -/
def layD (D : Ds) (args : List Int) (pcs : List Pc) : Ly := layL D.order (patN D args pcs) D args pcs 0 (lay0 D args)
def sumN (D : Ds) (args : List Int) (pcs : List Pc) : Nat := (pcs.map (pcN D args)).sum

theorem patF_sum {D : Ds} {args : List Int} : ∀ (l : List Pc) (b : Nat) (seen : List Nat) (b' : Nat) (seen' : List Nat), l.foldl (patF D args) (some (b, seen)) = some (b', seen') → b' = b + sumN D args l ∧ ∀ p ∈ l, pcN D args p ≠ 0
  | [], b, seen, b', seen', h => by
    simp only [List.foldl_nil, Option.some.injEq, Prod.mk.injEq] at h
    exact ⟨by simp [sumN, h.1], by simp⟩
  | p :: r, b, seen, b', seen', h => by
    rw [List.foldl_cons] at h
    have key : patF D args (some (b, seen)) p = none ∨ (pcN D args p ≠ 0 ∧ ∃ s1, patF D args (some (b, seen)) p = some (b + pcN D args p, s1)) := by
      unfold patF; dsimp only
      split
      · exact .inl rfl
      · rename_i hn
        split
        · exact .inr ⟨hn, _, rfl⟩
        · split
          · exact .inr ⟨hn, _, rfl⟩
          · exact .inl rfl
    rcases key with k | ⟨hn, s1, k⟩
    · rw [k, patF_none] at h; cases h
    · rw [k] at h
      obtain ⟨h1, h2⟩ := patF_sum r _ s1 b' seen' h
      refine ⟨by simp only [sumN, List.map_cons, List.sum_cons] at h1 ⊢; omega, fun q hq => ?_⟩
      rcases List.mem_cons.1 hq with rfl | hq
      · exact hn
      · exact h2 q hq
/-- What a right pattern says. -/
theorem pat_sum {D : Ds} {args : List Int} {pcs : List Pc} (h : patN D args pcs ≠ 0) : opsB D args = true ∧ sumN D args pcs = patN D args pcs ∧ (∀ p ∈ pcs, pcN D args p ≠ 0) ∧ patN D args pcs % 8 = 0 ∧ patN D args pcs ≤ 120 := by
  have hle := patN_le D args pcs
  unfold patN at h hle ⊢
  split at h
  · rename_i ho
    simp only [ho, if_true] at hle ⊢
    cases hf : pcs.foldl (patF D args) pat0 with
    | none => rw [hf] at h; exact absurd rfl h
    | some s =>
      obtain ⟨b, seen⟩ := s
      obtain ⟨h1, h2⟩ := patF_sum pcs 0 _ b seen hf
      rw [hf] at h hle
      dsimp only at h hle ⊢
      split at h
      · rename_i hc
        rw [if_pos hc]
        simp only [Bool.and_eq_true, decide_eq_true_eq] at hc
        exact ⟨trivial, by omega, h2, hc.2.1, hc.2.2⟩
      · exact absurd rfl h
  · exact absurd rfl h
theorem addN_lt {x p : Nat} (hx : x < 18446744073709551616) : addN x p < 18446744073709551616 :=
  Nat.or_lt_two_pow (n := 64) hx (Nat.pow_lt_pow_right (by decide) (Nat.mod_lt _ (by decide)))
theorem addZ_ok {D : Ds} {L : Ly} (h : LyOk D L) (q : Nat) : LyOk D (addZ L q) := by
  unfold addZ; split
  · exact ⟨addN_lt h.z0, h.z1, h.u0, h.u1, h.many, h.cls, h.at_⟩
  · exact ⟨h.z0, addN_lt h.z1, h.u0, h.u1, h.many, h.cls, h.at_⟩
theorem addU_ok {D : Ds} {L : Ly} (h : LyOk D L) (q : Nat) : LyOk D (addU L q) := by
  unfold addU; split
  · exact ⟨h.z0, h.z1, addN_lt h.u0, h.u1, h.many, h.cls, h.at_⟩
  · exact ⟨h.z0, h.z1, h.u0, addN_lt h.u1, h.many, h.cls, h.at_⟩
theorem mem_modify {α : Type} {f : α → α} {x : α} : ∀ {l : List α} {k : Nat}, x ∈ l.modify k f → x ∈ l ∨ ∃ y ∈ l, x = f y
  | [], k, h => by cases k <;> simp at h
  | a :: r, 0, h => by
    rw [List.modify_zero_cons] at h
    rcases List.mem_cons.1 h with rfl | h
    · exact .inr ⟨a, by simp, rfl⟩
    · exact .inl (List.mem_cons_of_mem _ h)
  | a :: r, k + 1, h => by
    rw [List.modify_succ_cons] at h
    rcases List.mem_cons.1 h with rfl | h
    · exact .inl (by simp)
    · rcases mem_modify h with h | ⟨y, hy, e⟩
      · exact .inl (List.mem_cons_of_mem _ h)
      · exact .inr ⟨y, List.mem_cons_of_mem _ hy, e⟩
theorem putO_ok {D : Ds} {L : Ly} (h : LyOk D L) (k i : Nat) {q : Nat} (hq : q < 128) : LyOk D (putO L k i q) := by
  unfold putO
  refine ⟨h.z0, h.z1, h.u0, h.u1, by simpa using h.many, fun x hx => ?_, fun x hx p hp => ?_⟩
  · rcases mem_modify hx with hx | ⟨y, hy, rfl⟩
    · exact h.cls x hx
    · simpa using h.cls y hy
  · rcases mem_modify hx with hx | ⟨y, hy, rfl⟩
    · exact h.at_ x hx p hp
    · rcases List.mem_or_eq_of_mem_set hp with hp | rfl
      · exact h.at_ y hy p hp
      · omega
theorem putL_ok {D : Ds} {L : Ly} (h : LyOk D L) (p : Pc) (b : Nat) {q : Nat} (hq : q < 128) : LyOk D (putL p b q L) := by
  unfold putL
  split
  · split
    · exact addZ_ok h q
    · split
      · exact addU_ok h q
      · exact h
  · exact putO_ok h _ _ hq
theorem lay0_ok {D : Ds} {args : List Int} (h6 : args.length ≤ 6) (h : args.all (clsAtB D) = true) : LyOk D (lay0 D args) := by
  refine ⟨Nat.lt_of_lt_of_le Nat.zero_lt_one (by decide), Nat.lt_of_lt_of_le Nat.zero_lt_one (by decide), Nat.lt_of_lt_of_le Nat.zero_lt_one (by decide), Nat.lt_of_lt_of_le Nat.zero_lt_one (by decide), by simpa [lay0] using h6, fun x hx => ?_, fun x hx p hp => ?_⟩
  · obtain ⟨c, hc, rfl⟩ := List.mem_map.1 hx
    obtain ⟨i, hi, rfl⟩ := List.mem_iff_getElem.1 hc
    obtain ⟨c, e, hc, h1, _, h2, h3⟩ := args_at h hi
    rw [e]
    simp only [op0, Int.toNat_natCast, List.getElem?_eq_getElem hc, Option.getD_some, List.length_replicate]
    exact ⟨h1, by omega, by omega⟩
  · obtain ⟨c, hc, rfl⟩ := List.mem_map.1 hx
    obtain rfl : p = 0 := List.eq_of_mem_replicate hp
    decide

/-- A layout in memory whose bits are being laid. -/
structure LayAt (lb base : Nat) (wr : World) (O : Option Addr) (oc : Nat) (os : List Od) (L : Ly) : Prop where
  blk : BlkAt wr lb [.int .u64 (L.z0 : Int), .int .u64 (L.z1 : Int), .int .u64 (L.u0 : Int), .int .u64 (L.u1 : Int), .slice O os.length oc]
  free : ∀ k, wr.frozen? ⟨lb, k, none⟩ = false
  len : L.ops.length = os.length
  row : ∀ (i : Nat) (o : Od), os[i]? = some o → ∃ ob : Nat, O = some ⟨ob, 0, none⟩ ∧ base ≤ ob ∧ (∀ o' ∈ os, o'.g ≠ ob) ∧ ∀ (k : Nat) (v : Value), (odC o)[k]? = some v → wr.cell? ⟨ob, i * 8 + k, none⟩ = some v
  ops : ∀ (i : Nat) (o : Od), os[i]? = some o → ∃ l : List Int, L.ops[i]? = some (o.x, l) ∧ (l.length : Nat) = o.x.bits.toNat ∧ (∀ (k : Nat) (v : Int), l[k]? = some v → wr.cell? ⟨o.g, k, none⟩ = some (.int .i64 v)) ∧ (∀ k, wr.frozen? ⟨o.g, k, none⟩ = false)
  old : ∀ o ∈ os, base ≤ o.g ∧ o.g < wr.heap.size
  apart : (os.map (·.g)).Nodup
  lb_ : lb < base
theorem LayAt.fr {lb base oc : Nat} {wr w' : World} {O : Option Addr} {os : List Od} {L : Ly} (h : LayAt lb base wr O oc os L) (k : Fr wr w') : LayAt lb base w' O oc os L := by
  refine ⟨h.blk.fr k, fun i => (k.cells.2.1 _ i (lt_of_cell (h.blk 0 _ rfl))).trans (h.free i), h.len, fun i o ho => ?_, fun i o ho => ?_, fun o ho => ?_, h.apart, h.lb_⟩
  · obtain ⟨ob, e, hb, hn, hc⟩ := h.row i o ho
    exact ⟨ob, e, hb, hn, fun j v hv => k.get (hc j v hv)⟩
  · obtain ⟨l, e, hl, hc, hf⟩ := h.ops i o ho
    exact ⟨l, e, hl, fun j v hv => k.get (hc j v hv), fun j => (k.cells.2.1 _ j (h.old o (List.mem_of_getElem? ho)).2).trans (hf j)⟩
  · exact ⟨(h.old o ho).1, Nat.lt_of_lt_of_le (h.old o ho).2 k.size⟩
theorem blk_other {w : World} {b : Nat} {l : List Value} {p : Addr} {v : Value} (h : BlkAt w b l) (hne : p.block ≠ b) : BlkAt (w.setCell p v) b l := fun i x hx => by
  rw [World.cell?_setCell_other _ _ _ _ (fun e => hne (by rw [e]))]; exact h i x hx
theorem blk_put {w : World} {b k : Nat} {l : List Value} {v u : Value} (h : BlkAt w b l) (hk : l[k]? = some u) : BlkAt (w.setCell ⟨b, k, none⟩ v) b (l.set k v) := fun i x hx => by
  by_cases e : k = i
  · subst e
    have hlt : k < l.length := (List.getElem?_eq_some_iff.1 hk).1
    rw [List.getElem?_set_self hlt] at hx
    injection hx with hx
    rw [World.cell?_setCell_same _ _ _ (h k u hk), hx]
  · rw [List.getElem?_set_ne e] at hx
    rw [World.cell?_setCell_other _ _ _ _ (by intro e2; injection e2 with e2 e3; exact e e3)]; exact h i x hx
/-- A bit of an operand is laid. -/
theorem LayAt.arg {lb base oc k i q : Nat} {wr : World} {O : Option Addr} {os : List Od} {L : Ly} {o : Od} (h : LayAt lb base wr O oc os L) (ho : os[k]? = some o) : LayAt lb base (wr.setCell ⟨o.g, i, none⟩ (.int .i64 (q : Int))) O oc os (putO L k i q) := by
  have hg := h.old o (List.mem_of_getElem? ho)
  have hl := h.lb_
  refine ⟨blk_other h.blk (by simp only; omega), fun j => by rw [World.frozen?_setCell]; exact h.free j, by simpa [putO] using h.len, fun j o' ho' => ?_, fun j o' ho' => ?_, fun o' ho' => by simpa using h.old o' ho', h.apart, hl⟩
  · obtain ⟨ob, e, hb, hn, hc⟩ := h.row j o' ho'
    exact ⟨ob, e, hb, hn, fun m v hv => by rw [World.cell?_setCell_other _ _ _ _ (fun e2 => hn o (List.mem_of_getElem? ho) (by injection e2))]; exact hc m v hv⟩
  · obtain ⟨l, e, hl, hc, hf⟩ := h.ops j o' ho'
    by_cases hj : k = j
    · subst hj
      obtain rfl : o = o' := Option.some.inj (ho.symm.trans ho')
      refine ⟨l.set i (q : Int), by simp [putO, List.getElem?_modify, e], by simpa using hl, fun m v hv => ?_, fun m => by rw [World.frozen?_setCell]; exact hf m⟩
      by_cases hm : i = m
      · subst hm
        have hlt : i < l.length := by
          rcases Nat.lt_or_ge i l.length with h1 | h1
          · exact h1
          · rw [List.getElem?_eq_none (by simpa using h1)] at hv; cases hv
        rw [List.getElem?_set_self hlt] at hv
        injection hv with hv
        rw [World.cell?_setCell_same _ _ _ (hc i _ (List.getElem?_eq_getElem hlt)), hv]
      · rw [List.getElem?_set_ne hm] at hv
        rw [World.cell?_setCell_other _ _ _ _ (by intro e2; injection e2 with e2 e3; exact hm e3)]; exact hc m v hv
    · have hne : o.g ≠ o'.g := fun e2 => hj (by
        have h1 : (os.map (·.g))[k]? = some o.g := by simp [ho]
        have h2 : (os.map (·.g))[j]? = some o.g := by simp [ho', e2]
        have hk1 := (List.getElem?_eq_some_iff.1 h1).1
        have hj1 := (List.getElem?_eq_some_iff.1 h2).1
        have hp := List.pairwise_iff_getElem.1 h.apart
        rcases Nat.lt_trichotomy k j with h3 | h3 | h3
        · exact absurd ((List.getElem?_eq_some_iff.1 h1).2.trans (List.getElem?_eq_some_iff.1 h2).2.symm) (hp k j hk1 hj1 h3)
        · exact h3
        · exact absurd ((List.getElem?_eq_some_iff.1 h2).2.trans (List.getElem?_eq_some_iff.1 h1).2.symm) (hp j k hj1 hk1 h3))
      refine ⟨l, by simp [putO, List.getElem?_modify, e, hj], hl, fun m v hv => ?_, fun m => by rw [World.frozen?_setCell]; exact hf m⟩
      rw [World.cell?_setCell_other _ _ _ _ (by intro e2; injection e2 with e2 e3; exact hne e2)]; exact hc m v hv
/-- What a store to the sets of places leaves of the rest. -/
theorem LayAt.sets {lb base oc k : Nat} {wr : World} {O : Option Addr} {os : List Od} {L L' : Ly} {v : Value} (h : LayAt lb base wr O oc os L) (hb : BlkAt (wr.setCell ⟨lb, k, none⟩ v) lb [.int .u64 (L'.z0 : Int), .int .u64 (L'.z1 : Int), .int .u64 (L'.u0 : Int), .int .u64 (L'.u1 : Int), .slice O os.length oc]) (he : L'.ops = L.ops) :
    LayAt lb base (wr.setCell ⟨lb, k, none⟩ v) O oc os L' := by
  have hl := h.lb_
  refine ⟨hb, fun j => by rw [World.frozen?_setCell]; exact h.free j, by rw [he]; exact h.len, fun j o' ho' => ?_, fun j o' ho' => ?_, fun o' ho' => by simpa using h.old o' ho', h.apart, hl⟩
  · obtain ⟨ob, e, hb, hn, hc⟩ := h.row j o' ho'
    exact ⟨ob, e, hb, hn, fun m v hv => by rw [World.cell?_setCell_other _ _ _ _ (fun e2 => by injection e2 with e2 e3; omega)]; exact hc m v hv⟩
  · obtain ⟨l, e, hl2, hc, hf⟩ := h.ops j o' ho'
    have hg := h.old o' (List.mem_of_getElem? ho')
    exact ⟨l, by rw [he]; exact e, hl2, fun m v hv => by rw [World.cell?_setCell_other _ _ _ _ (fun e2 => by injection e2 with e2 e3; omega)]; exact hc m v hv, fun m => by rw [World.frozen?_setCell]; exact hf m⟩
theorem LayAt.zero {lb base oc q : Nat} {wr : World} {O : Option Addr} {os : List Od} {L : Ly} (h : LayAt lb base wr O oc os L) (hq : q < 128) : LayAt lb base (wr.setCell ⟨lb, 0 + q / 64, none⟩ (.int .u64 (addN (if q < 64 then L.z0 else L.z1) q : Int))) O oc os (addZ L q) := by
  by_cases h6 : q < 64
  · have e : 0 + q / 64 = 0 := by omega
    rw [e, if_pos h6]
    refine h.sets ?_ (by simp [addZ, h6])
    have := blk_put (v := .int .u64 (addN L.z0 q : Int)) h.blk (k := 0) rfl
    simpa [addZ, h6] using this
  · have e : 0 + q / 64 = 1 := by omega
    rw [e, if_neg h6]
    refine h.sets ?_ (by simp [addZ, h6])
    have := blk_put (v := .int .u64 (addN L.z1 q : Int)) h.blk (k := 1) rfl
    simpa [addZ, h6] using this
theorem LayAt.one {lb base oc q : Nat} {wr : World} {O : Option Addr} {os : List Od} {L : Ly} (h : LayAt lb base wr O oc os L) (hq : q < 128) : LayAt lb base (wr.setCell ⟨lb, 2 + q / 64, none⟩ (.int .u64 (addN (if q < 64 then L.u0 else L.u1) q : Int))) O oc os (addU L q) := by
  by_cases h6 : q < 64
  · have e : 2 + q / 64 = 2 := by omega
    rw [e, if_pos h6]
    refine h.sets ?_ (by simp [addU, h6])
    have := blk_put (v := .int .u64 (addN L.u0 q : Int)) h.blk (k := 2) rfl
    simpa [addU, h6] using this
  · have e : 2 + q / 64 = 3 := by omega
    rw [e, if_neg h6]
    refine h.sets ?_ (by simp [addU, h6])
    have := blk_put (v := .int .u64 (addN L.u1 q : Int)) h.blk (k := 3) rfl
    simpa [addU, h6] using this
theorem flatO_get : ∀ (os : List Od) (i : Nat) (o : Od) (k : Nat) (v : Value), os[i]? = some o → (odC o)[k]? = some v → (flatO os)[i * 8 + k]? = some v
  | [], i, o, k, v, h, _ => by simp at h
  | a :: r, 0, o, k, v, h, hk => by
    obtain rfl : a = o := by simpa using h
    have : k < (odC a).length := (List.getElem?_eq_some_iff.1 hk).1
    simp only [flatO, List.flatMap_cons, Nat.zero_mul, Nat.zero_add]
    rw [List.getElem?_append_left this]; exact hk
  | a :: r, i + 1, o, k, v, h, hk => by
    have hl : (odC a).length = 8 := rfl
    simp only [flatO, List.flatMap_cons]
    rw [List.getElem?_append_right (by rw [hl]; omega), hl, show (i + 1) * 8 + k - 8 = i * 8 + k by omega]
    exact flatO_get r i o k v (by simpa using h) hk
theorem LayAt.start {lb base oc : Nat} {wr : World} {O : Option Addr} {os : List Od} {L : Ly} (h : OpsAt lb base wr O oc os) (hlb : lb < base) (h0 : L.z0 = 0 ∧ L.z1 = 0 ∧ L.u0 = 0 ∧ L.u1 = 0) (hl : L.ops.length = os.length) (ho : ∀ (i : Nat) (o : Od), os[i]? = some o → L.ops[i]? = some (o.x, List.replicate o.x.bits.toNat 0)) : LayAt lb base wr O oc os L := by
  obtain ⟨e0, e1, e2, e3⟩ := h0
  refine ⟨by rw [e0, e1, e2, e3]; exact h.blk, h.free, hl, fun i o hi => ?_, fun i o hi => ?_, fun o hm => ⟨(h.all o hm).old, (h.all o hm).lt⟩, h.apart, hlb⟩
  · have hi2 := (List.getElem?_eq_some_iff.1 hi).1
    rcases h.row.2 with ⟨_, hz⟩ | ⟨g, cap, cur, e, hb, hg, _, _, hs, ht⟩
    · omega
    · injection e with e e4 e5
      refine ⟨g, e, hb, fun o' ho' e6 => ?_, fun k v hv => ?_⟩
      · refine (h.all o' ho').own ?_
        rw [e, e6]; rfl
      · have h1 := flatO_get os i o k v hi hv
        rw [← ht] at h1
        have h2 : i * 8 + k < os.length * 8 := by
          rcases Nat.lt_or_ge (i * 8 + k) (os.length * 8) with h3 | h3
          · exact h3
          · rw [List.getElem?_eq_none (by rw [List.length_take]; omega)] at h1; cases h1
        rw [List.getElem?_take_of_lt h2] at h1
        simp [World.cell?, hg]
        simpa using h1
  · refine ⟨_, ho i o hi, by simp, fun k v hv => ?_, (h.all o (List.mem_of_getElem? hi)).free⟩
    obtain ⟨hk, e⟩ := List.getElem?_eq_some_iff.1 hv
    rw [List.getElem_replicate] at e
    subst e
    exact (h.all o (List.mem_of_getElem? hi)).cell k (by simpa using hk)
/-- A layout's operands, as those that read them want them: in every world that keeps the blocks below w0's and from B on. -/
theorem LayAt.done {D : Ds} {args : List Int} {lb base oc B : Nat} {w0 wr : World} {O : Option Addr} {os : List Od} {L : Ly} (h : LayAt lb base wr O oc os L) (hX : ∀ i o, os[i]? = some o → OdX D args w0 i o) (hf : Fr w0 wr) (hB : B ≤ base) :
    ∀ w' : World, (∀ b, (b < w0.heap.size ∨ B ≤ b) → b < wr.heap.size → w'.heap[b]? = wr.heap[b]?) → RowOf OpAt 8 w' O L.ops := by
  intro w' hK hl
  have hos : 0 < os.length := by rw [← h.len]; exact hl
  obtain ⟨ob, e, _, _, _⟩ := h.row 0 os[0] (List.getElem?_eq_getElem hos)
  refine ⟨ob, 0, e, fun i hi => ?_⟩
  have hi2 : i < os.length := by rw [← h.len]; exact hi
  have ho := List.getElem?_eq_getElem hi2
  generalize os[i] = o at ho
  obtain ⟨ob', e', hob, _, hc⟩ := h.row i o ho
  obtain rfl : ob = ob' := by rw [e] at e'; injection e' with e'; injection e'
  have hc : ∀ k v, (odC o)[k]? = some v → w'.cell? ⟨ob, i * 8 + k, none⟩ = some v := fun k v hv => by
    have := hc k v hv
    exact (cell_of_heap (hK ob (.inr (by omega)) (lt_of_cell this))).trans this
  obtain ⟨l, e2, hl2, hc2, _⟩ := h.ops i o ho
  have hgo := h.old o (List.mem_of_getElem? ho)
  have hc2 : ∀ k v, l[k]? = some v → w'.cell? ⟨o.g, k, none⟩ = some (.int .i64 v) := fun k v hv => (cell_of_heap (hK o.g (.inr (by omega)) hgo.2)).trans (hc2 k v hv)
  have e3 : L.ops[i] = (o.x, l) := (List.getElem?_eq_some_iff.1 e2).2
  rw [e3, Nat.zero_add, Nat.mul_comm 8 i]
  obtain ⟨⟨c, _, _, hcl, hb1, hb64⟩, ⟨r1, r2, r3, r4, r5, r6, r7⟩, hrow⟩ := hX i o ho
  refine ⟨⟨o.n0, o.E, o.ec, hc 0 _ rfl, r1, hc 1 _ rfl, r2, hc 2 _ rfl, r3, hc 3 _ rfl, r4, hc 4 _ rfl, r5, hc 5 _ rfl, r6, r7, hc 6 _ rfl, hrow.fr fun b _ _ x => ⟨x.1, ?_⟩⟩, some ⟨o.g, 0, none⟩, o.x.bits.toNat, by simp only; omega, ?_, ?_⟩
  · have hb := lt_of_cell x.2
    exact (cell_of_heap (hK b (.inl hb) (Nat.lt_of_lt_of_le hb hf.size))).trans (hf.get x.2)
  · have := hc 7 _ rfl
    simp only [hl2]; exact this
  · intro _
    exact ⟨o.g, 0, rfl, fun k hk => by have := hc2 k _ (List.getElem?_eq_getElem hk); simpa [IntC] using this⟩
end Go.Proofs.YtdipnhghdajplaaGreatDoor
namespace Go.Proofs.YtdipnhghdajplaaGreatDoor
open Go.RowKit
set_option linter.unusedSimpArgs false
set_option linter.unusedVariables false

/-- A bit that is written: a literal's letter (its operand is -1), or 0, an operand and the number of the bit. -/
structure Bt where
  (lit : Nat)
  (arg num : Int)
def wbit (p : Pc) (b : Nat) : Bt := if p.arg = -1 then ⟨chrN p b, -1, 0⟩ else ⟨0, p.arg, p.lo + b⟩
/-- The bits of a piece, the highest first. -/
def wP (p : Pc) : Nat → List Bt
  | 0 => []
  | b + 1 => wbit p b :: wP p b
def wL (D : Ds) (args : List Int) : List Pc → List Bt
  | [] => []
  | p :: r => wP p (pcN D args p) ++ wL D args r
theorem wP_len (p : Pc) : ∀ n, (wP p n).length = n
  | 0 => rfl
  | n + 1 => by simp [wP, wP_len p n]
theorem wL_len (D : Ds) (args : List Int) : ∀ l, (wL D args l).length = sumN D args l
  | [] => rfl
  | p :: r => by simp [wL, wP_len, wL_len D args r, sumN]
def putB (x : Bt) (q : Nat) (L : Ly) : Ly := if x.arg = -1 then (if x.lit = 48 then addZ L q else if x.lit = 49 then addU L q else L) else putO L x.arg.toNat x.num.toNat q
theorem putL_B {p : Pc} (h : p.arg = -1 ∨ 0 ≤ p.lo) (b q : Nat) (L : Ly) : putL p b q L = putB (wbit p b) q L := by
  unfold putL putB wbit
  by_cases ha : p.arg = -1
  · simp [ha]
  · have h2 : (p.lo + (b : Int)).toNat = p.lo.toNat + b := by rcases h with h | h <;> omega
    simp [ha, h2]
/-- The bits are laid, one after the other. -/
def layB (o : Int) (bits : Nat) : List Bt → Nat → Ly → Ly
  | [], _, L => L
  | x :: r, wr, L => layB o bits r (wr + 1) (putB x (plcN o wr bits) L)
theorem layB_append (o : Int) (bits : Nat) : ∀ (l1 l2 : List Bt) (wr : Nat) (L : Ly), layB o bits (l1 ++ l2) wr L = layB o bits l2 (wr + l1.length) (layB o bits l1 wr L)
  | [], l2, wr, L => rfl
  | x :: r, l2, wr, L => by
    show layB o bits (r ++ l2) (wr + 1) _ = _
    rw [layB_append o bits r l2 (wr + 1)]
    simp only [List.length_cons, layB]
    congr 1; omega
theorem layP_B {p : Pc} (h : p.arg = -1 ∨ 0 ≤ p.lo) (o : Int) (bits : Nat) : ∀ (n wr : Nat) (L : Ly), layP o bits p n wr L = layB o bits (wP p n) wr L
  | 0, _, _ => rfl
  | n + 1, wr, L => by simp only [layP, wP, layB]; rw [putL_B h, layP_B h o bits n]
theorem layL_B (o : Int) (bits : Nat) {D : Ds} {args : List Int} : ∀ (l : List Pc) (wr : Nat) (L : Ly), (∀ p ∈ l, p.arg = -1 ∨ 0 ≤ p.lo) → layL o bits D args l wr L = layB o bits (wL D args l) wr L
  | [], _, _, _ => rfl
  | p :: r, wr, L, h => by
    simp only [layL, wL]
    rw [layB_append, wP_len, ← layP_B (h p (by simp)), layL_B o bits r _ _ (fun q hq => h q (by simp [hq]))]
theorem pc_lo {D : Ds} {args : List Int} {p : Pc} (h : args.all (clsAtB D) = true) (hn : pcN D args p ≠ 0) : p.arg = -1 ∨ 0 ≤ p.lo := by
  by_cases ha : p.arg = -1
  · exact .inl ha
  · obtain ⟨k, lo, n, _, _, e, _⟩ := pc_right h ha hn
    exact .inr (by omega)
theorem layD_B {D : Ds} {args : List Int} {pcs : List Pc} (h : patN D args pcs ≠ 0) : layD D args pcs = layB D.order (patN D args pcs) (wL D args pcs) 0 (lay0 D args) ∧ (wL D args pcs).length = patN D args pcs := by
  obtain ⟨h1, h2, h3, _⟩ := pat_sum h
  unfold opsB at h1
  rw [Bool.and_eq_true] at h1
  exact ⟨layL_B _ _ _ _ _ fun p hp => pc_lo h1.2 (h3 p hp), by rw [wL_len, h2]⟩

/-! Which bits of operands there are: each once. -/
theorem low_bit (n m : Nat) : (lowI n).testBit m = decide (m < n) := by unfold lowI; rw [Nat.testBit_two_pow_sub_one]
theorem wP_mem {p : Pc} (ha : p.arg ≠ -1) : ∀ (n : Nat) (x : Bt), x ∈ wP p n ↔ x.lit = 0 ∧ x.arg = p.arg ∧ ∃ b : Nat, b < n ∧ x.num = p.lo + b
  | 0, x => by simp [wP]
  | n + 1, x => by
    simp only [wP, List.mem_cons, wP_mem ha n x]
    constructor
    · rintro (rfl | ⟨h1, h2, b, hb, h3⟩)
      · unfold wbit; rw [if_neg ha]; exact ⟨rfl, rfl, n, by omega, rfl⟩
      · exact ⟨h1, h2, b, by omega, h3⟩
    · rintro ⟨h1, h2, b, hb, h3⟩
      by_cases e : b = n
      · subst e; left; unfold wbit; rw [if_neg ha]; obtain ⟨l, a, m⟩ := x; simp only at h1 h2 h3; rw [h1, h2, h3]
      · exact .inr ⟨h1, h2, b, by omega, h3⟩
theorem wP_lit {p : Pc} (ha : p.arg = -1) : ∀ (n : Nat) (x : Bt), x ∈ wP p n → x.arg = -1
  | 0, x, h => by simp [wP] at h
  | n + 1, x, h => by
    simp only [wP, List.mem_cons] at h
    rcases h with rfl | h
    · unfold wbit; rw [if_pos ha]
    · exact wP_lit ha n x h
theorem wP_once {p : Pc} (ha : p.arg ≠ -1) : ∀ n : Nat, (wP p n).Pairwise (fun a b => a.arg ≠ -1 → a ≠ b)
  | 0 => by simp [wP]
  | n + 1 => by
    simp only [wP, List.pairwise_cons]
    refine ⟨fun x hx _ e => ?_, wP_once ha n⟩
    obtain ⟨_, _, b, hb, h3⟩ := (wP_mem ha n x).1 hx
    rw [← e] at h3
    unfold wbit at h3
    rw [if_neg ha] at h3
    simp only at h3
    omega
structure Seen (l : List Bt) (seen : List Nat) : Prop where
  len : seen.length = 6
  bit : ∀ k m : Nat, k < 6 → ((seen.getD k 0).testBit m = true ↔ (⟨0, (k : Int), (m : Int)⟩ : Bt) ∈ l)
  once : l.Pairwise (fun a b => a.arg ≠ -1 → a ≠ b)
theorem Seen.step {D : Ds} {args : List Int} (hall : args.all (clsAtB D) = true) (h6 : args.length ≤ 6) {l : List Bt} {b : Nat} {seen : List Nat} (h : Seen l seen) {p : Pc} {b' : Nat} {seen' : List Nat} (he : patF D args (some (b, seen)) p = some (b', seen')) : Seen (l ++ wP p (pcN D args p)) seen' := by
  unfold patF at he
  dsimp only at he
  split at he
  · cases he
  · rename_i hn
    split at he
    · rename_i ha
      simp only [Option.some.injEq, Prod.mk.injEq] at he
      obtain ⟨_, rfl⟩ := he
      refine ⟨h.len, fun k m hk => ?_, ?_⟩
      · rw [h.bit k m hk, List.mem_append]
        constructor
        · exact .inl
        · rintro (h1 | h1)
          · exact h1
          · have := wP_lit ha _ _ h1; simp only at this; omega
      · rw [List.pairwise_append]
        refine ⟨h.once, ?_, fun x _ y hy h1 e => h1 (by rw [e]; exact wP_lit ha _ _ hy)⟩
        exact List.Pairwise.imp_of_mem (R := fun _ _ => True) (fun {a b} ha' _ _ h1 => absurd (wP_lit ha _ _ ha') h1) (List.pairwise_of_forall fun _ _ => trivial)
    · rename_i ha
      split at he
      · rename_i hm
        simp only [Option.some.injEq, Prod.mk.injEq] at he
        obtain ⟨_, rfl⟩ := he
        obtain ⟨k0, lo, n, e1, e2, e3, e4, e5, e6, e7, e8, e9⟩ := pc_right hall ha hn
        have hk0 : p.arg.toNat = k0 := by omega
        rw [hk0] at hm ⊢
        have hmask : ∀ m : Nat, (maskN p).testBit m = true ↔ lo ≤ m ∧ m < lo + n := fun m => by
          rw [e9, Nat.mul_comm, Nat.testBit_two_pow_mul, low_bit]
          simp; omega
        have hw : ∀ k m : Nat, (⟨0, (k : Int), (m : Int)⟩ : Bt) ∈ wP p (pcN D args p) ↔ k = k0 ∧ lo ≤ m ∧ m < lo + n := fun k m => by
          rw [wP_mem ha, ← e5]
          constructor
          · rintro ⟨_, h2, b, hb, h3⟩; simp only at h2 h3; omega
          · rintro ⟨rfl, h2, h3⟩; exact ⟨rfl, e1.symm, m - lo, by omega, by simp only; omega⟩
        have hdis : ∀ m, (seen.getD k0 0).testBit m = true → (maskN p).testBit m = true → False := fun m h1 h2 => by
          have : (seen.getD k0 0 &&& maskN p).testBit m = true := by rw [Nat.testBit_and, h1, h2]; rfl
          rw [hm] at this; simp at this
        refine ⟨by simp [h.len], fun k m hk => ?_, ?_⟩
        · rw [List.mem_append, ← h.bit k m hk, hw]
          by_cases hkk : k = k0
          · subst hkk
            have : (seen.set k (seen.getD k 0 ||| maskN p)).getD k 0 = seen.getD k 0 ||| maskN p := by
              rw [List.getD_eq_getElem?_getD, List.getElem?_set_self (by rw [h.len]; exact hk)]; rfl
            rw [this, Nat.testBit_or, Bool.or_eq_true, hmask]
            simp
          · have : (seen.set k0 (seen.getD k0 0 ||| maskN p)).getD k 0 = seen.getD k 0 := by
              rw [List.getD_eq_getElem?_getD, List.getElem?_set_ne (Ne.symm hkk), ← List.getD_eq_getElem?_getD]
            rw [this]
            simp [hkk]
        · rw [List.pairwise_append]
          refine ⟨h.once, wP_once ha _, fun x hx y hy h1 e => ?_⟩
          subst e
          obtain ⟨l1, a1, m1⟩ := x
          obtain ⟨h2, h3, b2, hb2, h4⟩ := (wP_mem ha _ _).1 hy
          simp only at h2 h3 h4
          have hm1 : m1 = ((lo + b2 : Nat) : Int) := by omega
          subst h2
          rw [show a1 = (k0 : Int) by omega, hm1] at hx hy
          exact hdis (lo + b2) ((h.bit k0 (lo + b2) (by omega)).2 hx) ((hmask _).2 ((hw k0 (lo + b2)).1 hy).2)
      · cases he
theorem seen_fold {D : Ds} {args : List Int} (hall : args.all (clsAtB D) = true) (h6 : args.length ≤ 6) : ∀ (pcs : List Pc) (l : List Bt) (b : Nat) (seen : List Nat) (b' : Nat) (seen' : List Nat), Seen l seen → pcs.foldl (patF D args) (some (b, seen)) = some (b', seen') → Seen (l ++ wL D args pcs) seen'
  | [], l, b, seen, b', seen', h, he => by
    simp only [List.foldl_nil, Option.some.injEq, Prod.mk.injEq] at he
    rw [wL, List.append_nil, ← he.2]; exact h
  | p :: r, l, b, seen, b', seen', h, he => by
    rw [List.foldl_cons] at he
    cases hs : patF D args (some (b, seen)) p with
    | none => rw [hs, patF_none] at he; cases he
    | some s1 =>
      obtain ⟨b1, seen1⟩ := s1
      rw [hs] at he
      have := seen_fold hall h6 r _ b1 seen1 b' seen' (h.step hall h6 hs) he
      rw [wL, ← List.append_assoc]; exact this
/-- Each operand has each of its bits, and each once. -/
structure Once (D : Ds) (args : List Int) (l : List Bt) : Prop where
  has : ∀ k m : Nat, k < args.length → ((⟨0, (k : Int), (m : Int)⟩ : Bt) ∈ l ↔ (m : Int) < bitsAt D args k)
  once : l.Pairwise (fun a b => a.arg ≠ -1 → a ≠ b)
theorem wL_once {D : Ds} {args : List Int} {pcs : List Pc} (h : patN D args pcs ≠ 0) : Once D args (wL D args pcs) := by
  have hops := (pat_sum h).1
  have hops2 := hops
  unfold opsB at hops2
  rw [Bool.and_eq_true] at hops2
  have h6 : args.length ≤ 6 := of_decide_eq_true hops2.1
  unfold patN at h
  rw [if_pos hops] at h
  cases hf : pcs.foldl (patF D args) pat0 with
  | none => rw [hf] at h; exact absurd rfl h
  | some s =>
    obtain ⟨b, seen⟩ := s
    rw [hf] at h
    dsimp only at h
    split at h
    · rename_i hc
      rw [Bool.and_eq_true] at hc
      have hs := seen_fold hops2.2 h6 pcs [] 0 [0, 0, 0, 0, 0, 0] b seen ⟨rfl, fun k m hk => by
        constructor
        · intro h1
          match k, hk with
          | 0, _ => simp at h1
          | 1, _ => simp at h1
          | 2, _ => simp at h1
          | 3, _ => simp at h1
          | 4, _ => simp at h1
          | 5, _ => simp at h1
        · intro h1; exact absurd h1 (by simp), List.Pairwise.nil⟩ hf
      rw [List.nil_append] at hs
      refine ⟨fun k m hk => ?_, hs.once⟩
      have hfull := List.all_eq_true.1 hc.1 k (by simpa using hk)
      have hfull : seen.getD k 0 = lowI (bitsAt D args k).toNat := of_decide_eq_true hfull
      rw [← hs.bit k m (by omega), hfull, low_bit, decide_eq_true_eq]
      have := (args_at hops2.2 hk)
      obtain ⟨c, _, _, _, hb, hb1, _⟩ := this
      omega
    · exact absurd rfl h

/-! Where a layout has the bits. -/
theorem hasN_addZ (L : Ly) (q p : Nat) (hp : p < 128) (hq : q < 128) : hasN (addZ L q).z0 (addZ L q).z1 p = true → hasN L.z0 L.z1 p = true ∨ p = q := by
  unfold hasN addZ
  by_cases h1 : q < 64
  · by_cases h2 : p < 64
    · simp only [h1, h2, if_true]
      unfold addN
      rw [Nat.testBit_or, Bool.or_eq_true]
      rintro (h | h)
      · exact .inl h
      · right
        rw [Nat.testBit_two_pow] at h
        have := of_decide_eq_true h; omega
    · simp only [h1, h2, if_true, if_false]; exact .inl
  · by_cases h2 : p < 64
    · simp only [h1, h2, if_true, if_false]; exact .inl
    · simp only [h1, h2, if_false]
      unfold addN
      rw [Nat.testBit_or, Bool.or_eq_true]
      rintro (h | h)
      · exact .inl h
      · right
        rw [Nat.testBit_two_pow] at h
        have := of_decide_eq_true h; omega
theorem hasN_addU (L : Ly) (q p : Nat) (hp : p < 128) (hq : q < 128) : hasN (addU L q).u0 (addU L q).u1 p = true → hasN L.u0 L.u1 p = true ∨ p = q := by
  unfold hasN addU
  by_cases h1 : q < 64
  · by_cases h2 : p < 64
    · simp only [h1, h2, if_true]
      unfold addN
      rw [Nat.testBit_or, Bool.or_eq_true]
      rintro (h | h)
      · exact .inl h
      · right
        rw [Nat.testBit_two_pow] at h
        have := of_decide_eq_true h; omega
    · simp only [h1, h2, if_true, if_false]; exact .inl
  · by_cases h2 : p < 64
    · simp only [h1, h2, if_true, if_false]; exact .inl
    · simp only [h1, h2, if_false]
      unfold addN
      rw [Nat.testBit_or, Bool.or_eq_true]
      rintro (h | h)
      · exact .inl h
      · right
        rw [Nat.testBit_two_pow] at h
        have := of_decide_eq_true h; omega
theorem addZ_else (L : Ly) (q : Nat) : (addZ L q).u0 = L.u0 ∧ (addZ L q).u1 = L.u1 ∧ (addZ L q).ops = L.ops := by unfold addZ; split <;> exact ⟨rfl, rfl, rfl⟩
theorem addU_else (L : Ly) (q : Nat) : (addU L q).z0 = L.z0 ∧ (addU L q).z1 = L.z1 ∧ (addU L q).ops = L.ops := by unfold addU; split <;> exact ⟨rfl, rfl, rfl⟩
/-- What bytes' bits say of a layout. -/
structure Fit (β : Nat → Bool) (L : Ly) : Prop where
  z : ∀ p, p < 128 → hasN L.z0 L.z1 p = true → β p = false
  u : ∀ p, p < 128 → hasN L.u0 L.u1 p = true → β p = true
theorem layB_fit {β : Nat → Bool} {o : Int} {bits : Nat} (hb : bits ≤ 120) (h8 : bits % 8 = 0) : ∀ (l : List Bt) (wr : Nat) (L : Ly), wr + l.length = bits → Fit β L →
    (∀ i x, l[i]? = some x → x.arg = -1 → (x.lit = 48 → β (plcN o (wr + i) bits) = false) ∧ (x.lit = 49 → β (plcN o (wr + i) bits) = true)) → Fit β (layB o bits l wr L)
  | [], _, L, _, h, _ => h
  | x :: r, wr, L, hl, h, hx => by
    have hq : plcN o wr bits < 128 := Nat.lt_trans (plcN_lt (by simp at hl; omega) hb h8) (by decide)
    refine layB_fit hb h8 r (wr + 1) _ (by simp at hl; omega) ?_ (fun i y hy ha => by have := hx (i + 1) y (by simpa using hy) ha; rw [show wr + 1 + i = wr + (i + 1) by omega]; exact this)
    unfold putB
    split
    · rename_i ha
      have h0 := hx 0 x rfl ha
      rw [Nat.add_zero] at h0
      split
      · rename_i hc
        obtain ⟨e1, e2, _⟩ := addZ_else L (plcN o wr bits)
        refine ⟨fun p hp hh => ?_, fun p hp hh => by rw [e1, e2] at hh; exact h.u p hp hh⟩
        rcases hasN_addZ L _ p hp hq hh with h1 | rfl
        · exact h.z p hp h1
        · exact h0.1 hc
      · split
        · rename_i hc
          obtain ⟨e1, e2, _⟩ := addU_else L (plcN o wr bits)
          refine ⟨fun p hp hh => by rw [e1, e2] at hh; exact h.z p hp hh, fun p hp hh => ?_⟩
          rcases hasN_addU L _ p hp hq hh with h1 | rfl
          · exact h.u p hp h1
          · exact h0.2 hc
        · exact h
    · exact ⟨h.z, h.u⟩
/-- The number of an operand's place that is laid last stands. -/
theorem layB_ops {o : Int} {bits : Nat} {k m : Nat} : ∀ (l : List Bt) (wr : Nat) (L : Ly) (q : Int), (∀ x ∈ l, x.arg ≠ -1 → 0 ≤ x.arg ∧ 0 ≤ x.num ∧ x.lit = 0) → (∃ c a, L.ops[k]? = some (c, a) ∧ a[m]? = some q) →
    (∀ x ∈ l, x ≠ (⟨0, (k : Int), (m : Int)⟩ : Bt)) → ∃ c a, (layB o bits l wr L).ops[k]? = some (c, a) ∧ a[m]? = some q
  | [], _, L, q, _, h, _ => h
  | x :: r, wr, L, q, hx, h, hn => by
    refine layB_ops r (wr + 1) _ q (fun y hy => hx y (by simp [hy])) ?_ (fun y hy => hn y (by simp [hy]))
    obtain ⟨c, a, h1, h2⟩ := h
    unfold putB
    split
    · split
      · rw [(addZ_else L _).2.2]; exact ⟨c, a, h1, h2⟩
      · split
        · rw [(addU_else L _).2.2]; exact ⟨c, a, h1, h2⟩
        · exact ⟨c, a, h1, h2⟩
    · rename_i ha
      obtain ⟨g1, g2, g3⟩ := hx x (by simp) ha
      unfold putO
      by_cases hk : x.arg.toNat = k
      · refine ⟨c, a.set x.num.toNat (plcN o wr bits : Int), by simp [List.getElem?_modify, hk, h1], ?_⟩
        rw [List.getElem?_set_ne]
        · exact h2
        · intro e
          refine hn x (by simp) ?_
          obtain ⟨l1, a1, m1⟩ := x
          simp only at hk e g1 g2 g3
          rw [show a1 = (k : Int) by omega, show m1 = (m : Int) by omega, g3]
      · exact ⟨c, a, by simp [List.getElem?_modify, hk, h1], h2⟩
theorem layB_len {o : Int} {bits : Nat} {k : Nat} : ∀ (l : List Bt) (wr : Nat) (L : Ly) (c : Cl) (n : Nat), (∃ a, L.ops[k]? = some (c, a) ∧ a.length = n) → ∃ a, (layB o bits l wr L).ops[k]? = some (c, a) ∧ a.length = n
  | [], _, L, c, n, h => h
  | x :: r, wr, L, c, n, h => by
    refine layB_len r (wr + 1) _ c n ?_
    obtain ⟨a, h1, h2⟩ := h
    unfold putB
    split
    · split
      · rw [(addZ_else L _).2.2]; exact ⟨a, h1, h2⟩
      · split
        · rw [(addU_else L _).2.2]; exact ⟨a, h1, h2⟩
        · exact ⟨a, h1, h2⟩
    · unfold putO
      by_cases hk : x.arg.toNat = k
      · exact ⟨a.set x.num.toNat (plcN o wr bits : Int), by simp [List.getElem?_modify, hk, h1], by simpa using h2⟩
      · exact ⟨a, by simp [List.getElem?_modify, hk, h1], h2⟩
end Go.Proofs.YtdipnhghdajplaaGreatDoor
