/- Where a form's bits lie, as plain functions; a layout in memory while its bits are laid. -/
import Derived.Test.YtdipnhghdajplaaGreatDoorP27
import Derived.Test.YtdipnhghdajplaaGreatDoorP24
import Derived.Test.YtdipnhghdajplaaGreatDoorP20
import Derived.Test.YtdipnhghdajplaaGreatDoorP28
namespace Go.Proofs.YtdipnhghdajplaaGreatDoor
open Go.RowKit
set_option linter.unusedSimpArgs false
set_option linter.unusedVariables false
def plcN (o : Int) (wr bits : Nat) : Nat := if o = 1 then bits - 1 - wr else wr / 8 * 8 + 7 - wr % 8
theorem plcN_I {o : Int} {wr bits : Nat} (h : wr < bits) : plcI o wr bits = (plcN o wr bits : Int) := by
 unfold plcI plcN
 split
 · omega
 · rfl
theorem plcN_lt {o : Int} {wr bits : Nat} (h : wr < bits) (hb : bits ≤ 120) (h8 : bits % 8 = 0) : plcN o wr bits < 120 := by
 unfold plcN; split <;> omega
def chrN (p : Pc) (b : Nat) : Nat := if h : p.lit.size - 1 - b < p.lit.size then (p.lit[p.lit.size - 1 - b]).toNat else 0
def addZ (L : Ly) (q : Nat) : Ly := if q < 64 then { L with z0 := addN L.z0 q } else { L with z1 := addN L.z1 q }
def addU (L : Ly) (q : Nat) : Ly := if q < 64 then { L with u0 := addN L.u0 q } else { L with u1 := addN L.u1 q }
def putO (L : Ly) (k i q : Nat) : Ly := { L with ops := L.ops.modify k fun x => (x.1, x.2.set i (q : Int)) }
def putL (p : Pc) (b q : Nat) (L : Ly) : Ly := if p.arg = -1 then (if chrN p b = 48 then addZ L q else if chrN p b = 49 then addU L q else L) else putO L p.arg.toNat (p.lo.toNat + b) q
def layP (o : Int) (bits : Nat) (p : Pc) : Nat → Nat → Ly → Ly
 | 0, _, L => L
 | b + 1, wr, L => layP o bits p b (wr + 1) (putL p b (plcN o wr bits) L)
def layL (o : Int) (bits : Nat) (D : Ds) (args : List Int) : List Pc → Nat → Ly → Ly
 | [], _, L => L
 | p :: r, wr, L => layL o bits D args r (wr + pcN D args p) (layP o bits p (pcN D args p) wr L)
def op0 (D : Ds) (c : Int) : Cl × List Int := ((D.cls[c.toNat]?).getD ⟨0, 0, 0, 0, 0, []⟩, List.replicate ((D.cls[c.toNat]?).getD ⟨0, 0, 0, 0, 0, []⟩).bits.toNat 0)
def lay0 (D : Ds) (args : List Int) : Ly := ⟨0, 0, 0, 0, args.map (op0 D)⟩
def layD (D : Ds) (args : List Int) (pcs : List Pc) : Ly := layL D.order (patN D args pcs) D args pcs 0 (lay0 D args)
def sumN (D : Ds) (args : List Int) (pcs : List Pc) : Nat := (pcs.map (pcN D args)).sum
theorem patF_sum {D : Ds} {args : List Int} : ∀ (l : List Pc) (b : Nat) (seen : List Nat) (b' : Nat) (seen' : List Nat), l.foldl (patF D args) (some (b, seen)) = some (b', seen') → b' = b + sumN D args l ∧ ∀ p ∈ l, pcN D args p ≠ 0
 | [], b, seen, b', seen', h => by
   simp only [List.foldl_nil, Option.some.injEq, Prod.mk.injEq] at h
   exact ⟨by simp [sumN, h.1], by simp⟩
 | p :: r, b, seen, b', seen', h => by
   rw [List.foldl_cons] at h
   have key : patF D args (some (b, seen)) p = none ∨ (pcN D args p ≠ 0 ∧ ∃ s1, patF D args (some (b, seen)) p = some (b + pcN D args p, s1)) := by
     unfold patF; dsimp only
     split
     · exact .inl rfl
     · rename_i hn
       split
       · exact .inr ⟨hn, _, rfl⟩
       · split
         · exact .inr ⟨hn, _, rfl⟩
         · exact .inl rfl
   rcases key with k | ⟨hn, s1, k⟩
   · rw [k, patF_none] at h; cases h
   · rw [k] at h
     obtain ⟨h1, h2⟩ := patF_sum r _ s1 b' seen' h
     refine ⟨by simp only [sumN, List.map_cons, List.sum_cons] at h1 ⊢; omega, fun q hq => ?_⟩
     rcases List.mem_cons.1 hq with rfl | hq
     · exact hn
     · exact h2 q hq
theorem pat_sum {D : Ds} {args : List Int} {pcs : List Pc} (h : patN D args pcs ≠ 0) : opsB D args = true ∧ sumN D args pcs = patN D args pcs ∧ (∀ p ∈ pcs, pcN D args p ≠ 0) ∧ patN D args pcs % 8 = 0 ∧ patN D args pcs ≤ 120 := by
 have hle := patN_le D args pcs
 unfold patN at h hle ⊢
 split at h
 · rename_i ho
   simp only [ho, if_true] at hle ⊢
   cases hf : pcs.foldl (patF D args) pat0 with
   | none => rw [hf] at h; exact absurd rfl h
   | some s =>
     obtain ⟨b, seen⟩ := s
     obtain ⟨h1, h2⟩ := patF_sum pcs 0 _ b seen hf
     rw [hf] at h hle
     dsimp only at h hle ⊢
     split at h
     · rename_i hc
       rw [if_pos hc]
       simp only [Bool.and_eq_true, decide_eq_true_eq] at hc
       exact ⟨trivial, by omega, h2, hc.2.1, hc.2.2⟩
     · exact absurd rfl h
 · exact absurd rfl h
theorem addN_lt {x p : Nat} (hx : x < 18446744073709551616) : addN x p < 18446744073709551616 :=
 Nat.or_lt_two_pow (n := 64) hx (Nat.pow_lt_pow_right (by decide) (Nat.mod_lt _ (by decide)))
theorem addZ_ok {D : Ds} {L : Ly} (h : LyOk D L) (q : Nat) : LyOk D (addZ L q) := by
 unfold addZ; split
 · exact ⟨addN_lt h.z0, h.z1, h.u0, h.u1, h.many, h.cls, h.at_⟩
 · exact ⟨h.z0, addN_lt h.z1, h.u0, h.u1, h.many, h.cls, h.at_⟩
theorem addU_ok {D : Ds} {L : Ly} (h : LyOk D L) (q : Nat) : LyOk D (addU L q) := by
 unfold addU; split
 · exact ⟨h.z0, h.z1, addN_lt h.u0, h.u1, h.many, h.cls, h.at_⟩
 · exact ⟨h.z0, h.z1, h.u0, addN_lt h.u1, h.many, h.cls, h.at_⟩
theorem mem_modify {α : Type} {f : α → α} {x : α} : ∀ {l : List α} {k : Nat}, x ∈ l.modify k f → x ∈ l ∨ ∃ y ∈ l, x = f y
 | [], k, h => by cases k <;> simp at h
 | a :: r, 0, h => by
   rw [List.modify_zero_cons] at h
   rcases List.mem_cons.1 h with rfl | h
   · exact .inr ⟨a, by simp, rfl⟩
   · exact .inl (List.mem_cons_of_mem _ h)
 | a :: r, k + 1, h => by
   rw [List.modify_succ_cons] at h
   rcases List.mem_cons.1 h with rfl | h
   · exact .inl (by simp)
   · rcases mem_modify h with h | ⟨y, hy, e⟩
     · exact .inl (List.mem_cons_of_mem _ h)
     · exact .inr ⟨y, List.mem_cons_of_mem _ hy, e⟩
theorem putO_ok {D : Ds} {L : Ly} (h : LyOk D L) (k i : Nat) {q : Nat} (hq : q < 128) : LyOk D (putO L k i q) := by
 unfold putO
 refine ⟨h.z0, h.z1, h.u0, h.u1, by simpa using h.many, fun x hx => ?_, fun x hx p hp => ?_⟩
 · rcases mem_modify hx with hx | ⟨y, hy, rfl⟩
   · exact h.cls x hx
   · simpa using h.cls y hy
 · rcases mem_modify hx with hx | ⟨y, hy, rfl⟩
   · exact h.at_ x hx p hp
   · rcases List.mem_or_eq_of_mem_set hp with hp | rfl
     · exact h.at_ y hy p hp
     · omega
theorem putL_ok {D : Ds} {L : Ly} (h : LyOk D L) (p : Pc) (b : Nat) {q : Nat} (hq : q < 128) : LyOk D (putL p b q L) := by
 unfold putL
 split
 · split
   · exact addZ_ok h q
   · split
     · exact addU_ok h q
     · exact h
 · exact putO_ok h _ _ hq
theorem lay0_ok {D : Ds} {args : List Int} (h6 : args.length ≤ 6) (h : args.all (clsAtB D) = true) : LyOk D (lay0 D args) := by
 refine ⟨Nat.lt_of_lt_of_le Nat.zero_lt_one (by decide), Nat.lt_of_lt_of_le Nat.zero_lt_one (by decide), Nat.lt_of_lt_of_le Nat.zero_lt_one (by decide), Nat.lt_of_lt_of_le Nat.zero_lt_one (by decide), by simpa [lay0] using h6, fun x hx => ?_, fun x hx p hp => ?_⟩
 · obtain ⟨c, hc, rfl⟩ := List.mem_map.1 hx
   obtain ⟨i, hi, rfl⟩ := List.mem_iff_getElem.1 hc
   obtain ⟨c, e, hc, h1, _, h2, h3⟩ := args_at h hi
   rw [e]
   simp only [op0, Int.toNat_natCast, List.getElem?_eq_getElem hc, Option.getD_some, List.length_replicate]
   exact ⟨h1, by omega, by omega⟩
 · obtain ⟨c, hc, rfl⟩ := List.mem_map.1 hx
   obtain rfl : p = 0 := List.eq_of_mem_replicate hp
   decide
structure LayAt (lb base : Nat) (wr : World) (O : Option Addr) (oc : Nat) (os : List Od) (L : Ly) : Prop where
 blk : BlkAt wr lb [.int .u64 (L.z0 : Int), .int .u64 (L.z1 : Int), .int .u64 (L.u0 : Int), .int .u64 (L.u1 : Int), .slice O os.length oc]
 free : ∀ k, wr.frozen? ⟨lb, k, none⟩ = false
 len : L.ops.length = os.length
 row : ∀ (i : Nat) (o : Od), os[i]? = some o → ∃ ob : Nat, O = some ⟨ob, 0, none⟩ ∧ base ≤ ob ∧ (∀ o' ∈ os, o'.g ≠ ob) ∧ ∀ (k : Nat) (v : Value), (odC o)[k]? = some v → wr.cell? ⟨ob, i * 8 + k, none⟩ = some v
 ops : ∀ (i : Nat) (o : Od), os[i]? = some o → ∃ l : List Int, L.ops[i]? = some (o.x, l) ∧ (l.length : Nat) = o.x.bits.toNat ∧ (∀ (k : Nat) (v : Int), l[k]? = some v → wr.cell? ⟨o.g, k, none⟩ = some (.int .i64 v)) ∧ (∀ k, wr.frozen? ⟨o.g, k, none⟩ = false)
 old : ∀ o ∈ os, base ≤ o.g ∧ o.g < wr.heap.size
 apart : (os.map (·.g)).Nodup
 lb_ : lb < base
theorem LayAt.fr {lb base oc : Nat} {wr w' : World} {O : Option Addr} {os : List Od} {L : Ly} (h : LayAt lb base wr O oc os L) (k : Fr wr w') : LayAt lb base w' O oc os L := by
 refine ⟨h.blk.fr k, fun i => (k.cells.2.1 _ i (lt_of_cell (h.blk 0 _ rfl))).trans (h.free i), h.len, fun i o ho => ?_, fun i o ho => ?_, fun o ho => ?_, h.apart, h.lb_⟩
 · obtain ⟨ob, e, hb, hn, hc⟩ := h.row i o ho
   exact ⟨ob, e, hb, hn, fun j v hv => k.get (hc j v hv)⟩
 · obtain ⟨l, e, hl, hc, hf⟩ := h.ops i o ho
   exact ⟨l, e, hl, fun j v hv => k.get (hc j v hv), fun j => (k.cells.2.1 _ j (h.old o (List.mem_of_getElem? ho)).2).trans (hf j)⟩
 · exact ⟨(h.old o ho).1, Nat.lt_of_lt_of_le (h.old o ho).2 k.size⟩
theorem blk_other {w : World} {b : Nat} {l : List Value} {p : Addr} {v : Value} (h : BlkAt w b l) (hne : p.block ≠ b) : BlkAt (w.setCell p v) b l := fun i x hx => by
 rw [World.cell?_setCell_other _ _ _ _ (fun e => hne (by rw [e]))]; exact h i x hx
theorem blk_put {w : World} {b k : Nat} {l : List Value} {v u : Value} (h : BlkAt w b l) (hk : l[k]? = some u) : BlkAt (w.setCell ⟨b, k, none⟩ v) b (l.set k v) := fun i x hx => by
 by_cases e : k = i
 · subst e
   have hlt : k < l.length := (List.getElem?_eq_some_iff.1 hk).1
   rw [List.getElem?_set_self hlt] at hx
   injection hx with hx
   rw [World.cell?_setCell_same _ _ _ (h k u hk), hx]
 · rw [List.getElem?_set_ne e] at hx
   rw [World.cell?_setCell_other _ _ _ _ (by intro e2; injection e2 with e2 e3; exact e e3)]; exact h i x hx
theorem LayAt.arg {lb base oc k i q : Nat} {wr : World} {O : Option Addr} {os : List Od} {L : Ly} {o : Od} (h : LayAt lb base wr O oc os L) (ho : os[k]? = some o) : LayAt lb base (wr.setCell ⟨o.g, i, none⟩ (.int .i64 (q : Int))) O oc os (putO L k i q) := by
 have hg := h.old o (List.mem_of_getElem? ho)
 have hl := h.lb_
 refine ⟨blk_other h.blk (by simp only; omega), fun j => by rw [World.frozen?_setCell]; exact h.free j, by simpa [putO] using h.len, fun j o' ho' => ?_, fun j o' ho' => ?_, fun o' ho' => by simpa using h.old o' ho', h.apart, hl⟩
 · obtain ⟨ob, e, hb, hn, hc⟩ := h.row j o' ho'
   exact ⟨ob, e, hb, hn, fun m v hv => by rw [World.cell?_setCell_other _ _ _ _ (fun e2 => hn o (List.mem_of_getElem? ho) (by injection e2))]; exact hc m v hv⟩
 · obtain ⟨l, e, hl, hc, hf⟩ := h.ops j o' ho'
   by_cases hj : k = j
   · subst hj
     obtain rfl : o = o' := Option.some.inj (ho.symm.trans ho')
     refine ⟨l.set i (q : Int), by simp [putO, List.getElem?_modify, e], by simpa using hl, fun m v hv => ?_, fun m => by rw [World.frozen?_setCell]; exact hf m⟩
     by_cases hm : i = m
     · subst hm
       have hlt : i < l.length := by
         rcases Nat.lt_or_ge i l.length with h1 | h1
         · exact h1
         · rw [List.getElem?_eq_none (by simpa using h1)] at hv; cases hv
       rw [List.getElem?_set_self hlt] at hv
       injection hv with hv
       rw [World.cell?_setCell_same _ _ _ (hc i _ (List.getElem?_eq_getElem hlt)), hv]
     · rw [List.getElem?_set_ne hm] at hv
       rw [World.cell?_setCell_other _ _ _ _ (by intro e2; injection e2 with e2 e3; exact hm e3)]; exact hc m v hv
   · have hne : o.g ≠ o'.g := fun e2 => hj (by
       have h1 : (os.map (·.g))[k]? = some o.g := by simp [ho]
       have h2 : (os.map (·.g))[j]? = some o.g := by simp [ho', e2]
       have hk1 := (List.getElem?_eq_some_iff.1 h1).1
       have hj1 := (List.getElem?_eq_some_iff.1 h2).1
       have hp := List.pairwise_iff_getElem.1 h.apart
       rcases Nat.lt_trichotomy k j with h3 | h3 | h3
       · exact absurd ((List.getElem?_eq_some_iff.1 h1).2.trans (List.getElem?_eq_some_iff.1 h2).2.symm) (hp k j hk1 hj1 h3)
       · exact h3
       · exact absurd ((List.getElem?_eq_some_iff.1 h2).2.trans (List.getElem?_eq_some_iff.1 h1).2.symm) (hp j k hj1 hk1 h3))
     refine ⟨l, by simp [putO, List.getElem?_modify, e, hj], hl, fun m v hv => ?_, fun m => by rw [World.frozen?_setCell]; exact hf m⟩
     rw [World.cell?_setCell_other _ _ _ _ (by intro e2; injection e2 with e2 e3; exact hne e2)]; exact hc m v hv
theorem LayAt.sets {lb base oc k : Nat} {wr : World} {O : Option Addr} {os : List Od} {L L' : Ly} {v : Value} (h : LayAt lb base wr O oc os L) (hb : BlkAt (wr.setCell ⟨lb, k, none⟩ v) lb [.int .u64 (L'.z0 : Int), .int .u64 (L'.z1 : Int), .int .u64 (L'.u0 : Int), .int .u64 (L'.u1 : Int), .slice O os.length oc]) (he : L'.ops = L.ops) :
   LayAt lb base (wr.setCell ⟨lb, k, none⟩ v) O oc os L' := by
 have hl := h.lb_
 refine ⟨hb, fun j => by rw [World.frozen?_setCell]; exact h.free j, by rw [he]; exact h.len, fun j o' ho' => ?_, fun j o' ho' => ?_, fun o' ho' => by simpa using h.old o' ho', h.apart, hl⟩
 · obtain ⟨ob, e, hb, hn, hc⟩ := h.row j o' ho'
   exact ⟨ob, e, hb, hn, fun m v hv => by rw [World.cell?_setCell_other _ _ _ _ (fun e2 => by injection e2 with e2 e3; omega)]; exact hc m v hv⟩
 · obtain ⟨l, e, hl2, hc, hf⟩ := h.ops j o' ho'
   have hg := h.old o' (List.mem_of_getElem? ho')
   exact ⟨l, by rw [he]; exact e, hl2, fun m v hv => by rw [World.cell?_setCell_other _ _ _ _ (fun e2 => by injection e2 with e2 e3; omega)]; exact hc m v hv, fun m => by rw [World.frozen?_setCell]; exact hf m⟩
theorem LayAt.zero {lb base oc q : Nat} {wr : World} {O : Option Addr} {os : List Od} {L : Ly} (h : LayAt lb base wr O oc os L) (hq : q < 128) : LayAt lb base (wr.setCell ⟨lb, 0 + q / 64, none⟩ (.int .u64 (addN (if q < 64 then L.z0 else L.z1) q : Int))) O oc os (addZ L q) := by
 by_cases h6 : q < 64
 · have e : 0 + q / 64 = 0 := by omega
   rw [e, if_pos h6]
   refine h.sets ?_ (by simp [addZ, h6])
   have := blk_put (v := .int .u64 (addN L.z0 q : Int)) h.blk (k := 0) rfl
   simpa [addZ, h6] using this
 · have e : 0 + q / 64 = 1 := by omega
   rw [e, if_neg h6]
   refine h.sets ?_ (by simp [addZ, h6])
   have := blk_put (v := .int .u64 (addN L.z1 q : Int)) h.blk (k := 1) rfl
   simpa [addZ, h6] using this
theorem LayAt.one {lb base oc q : Nat} {wr : World} {O : Option Addr} {os : List Od} {L : Ly} (h : LayAt lb base wr O oc os L) (hq : q < 128) : LayAt lb base (wr.setCell ⟨lb, 2 + q / 64, none⟩ (.int .u64 (addN (if q < 64 then L.u0 else L.u1) q : Int))) O oc os (addU L q) := by
 by_cases h6 : q < 64
 · have e : 2 + q / 64 = 2 := by omega
   rw [e, if_pos h6]
   refine h.sets ?_ (by simp [addU, h6])
   have := blk_put (v := .int .u64 (addN L.u0 q : Int)) h.blk (k := 2) rfl
   simpa [addU, h6] using this
 · have e : 2 + q / 64 = 3 := by omega
   rw [e, if_neg h6]
   refine h.sets ?_ (by simp [addU, h6])
   have := blk_put (v := .int .u64 (addN L.u1 q : Int)) h.blk (k := 3) rfl
   simpa [addU, h6] using this
theorem flatO_get : ∀ (os : List Od) (i : Nat) (o : Od) (k : Nat) (v : Value), os[i]? = some o → (odC o)[k]? = some v → (flatO os)[i * 8 + k]? = some v
 | [], i, o, k, v, h, _ => by simp at h
 | a :: r, 0, o, k, v, h, hk => by
   obtain rfl : a = o := by simpa using h
   have : k < (odC a).length := (List.getElem?_eq_some_iff.1 hk).1
   simp only [flatO, List.flatMap_cons, Nat.zero_mul, Nat.zero_add]
   rw [List.getElem?_append_left this]; exact hk
 | a :: r, i + 1, o, k, v, h, hk => by
   have hl : (odC a).length = 8 := rfl
   simp only [flatO, List.flatMap_cons]
   rw [List.getElem?_append_right (by rw [hl]; omega), hl, show (i + 1) * 8 + k - 8 = i * 8 + k by omega]
   exact flatO_get r i o k v (by simpa using h) hk
theorem LayAt.start {lb base oc : Nat} {wr : World} {O : Option Addr} {os : List Od} {L : Ly} (h : OpsAt lb base wr O oc os) (hlb : lb < base) (h0 : L.z0 = 0 ∧ L.z1 = 0 ∧ L.u0 = 0 ∧ L.u1 = 0) (hl : L.ops.length = os.length) (ho : ∀ (i : Nat) (o : Od), os[i]? = some o → L.ops[i]? = some (o.x, List.replicate o.x.bits.toNat 0)) : LayAt lb base wr O oc os L := by
 obtain ⟨e0, e1, e2, e3⟩ := h0
 refine ⟨by rw [e0, e1, e2, e3]; exact h.blk, h.free, hl, fun i o hi => ?_, fun i o hi => ?_, fun o hm => ⟨(h.all o hm).old, (h.all o hm).lt⟩, h.apart, hlb⟩
 · have hi2 := (List.getElem?_eq_some_iff.1 hi).1
   rcases h.row.2 with ⟨_, hz⟩ | ⟨g, cap, cur, e, hb, hg, _, _, hs, ht⟩
   · omega
   · injection e with e e4 e5
     refine ⟨g, e, hb, fun o' ho' e6 => ?_, fun k v hv => ?_⟩
     · refine (h.all o' ho').own ?_
       rw [e, e6]; rfl
     · have h1 := flatO_get os i o k v hi hv
       rw [← ht] at h1
       have h2 : i * 8 + k < os.length * 8 := by
         rcases Nat.lt_or_ge (i * 8 + k) (os.length * 8) with h3 | h3
         · exact h3
         · rw [List.getElem?_eq_none (by rw [List.length_take]; omega)] at h1; cases h1
       rw [List.getElem?_take_of_lt h2] at h1
       simp [World.cell?, hg]
       simpa using h1
 · refine ⟨_, ho i o hi, by simp, fun k v hv => ?_, (h.all o (List.mem_of_getElem? hi)).free⟩
   obtain ⟨hk, e⟩ := List.getElem?_eq_some_iff.1 hv
   rw [List.getElem_replicate] at e
   subst e
   exact (h.all o (List.mem_of_getElem? hi)).cell k (by simpa using hk)
theorem LayAt.done {D : Ds} {args : List Int} {lb base oc B : Nat} {w0 wr : World} {O : Option Addr} {os : List Od} {L : Ly} (h : LayAt lb base wr O oc os L) (hX : ∀ i o, os[i]? = some o → OdX D args w0 i o) (hf : Fr w0 wr) (hB : B ≤ base) :
   ∀ w' : World, (∀ b, (b < w0.heap.size ∨ B ≤ b) → b < wr.heap.size → w'.heap[b]? = wr.heap[b]?) → RowOf OpAt 8 w' O L.ops := by
 intro w' hK hl
 have hos : 0 < os.length := by rw [← h.len]; exact hl
 obtain ⟨ob, e, _, _, _⟩ := h.row 0 os[0] (List.getElem?_eq_getElem hos)
 refine ⟨ob, 0, e, fun i hi => ?_⟩
 have hi2 : i < os.length := by rw [← h.len]; exact hi
 have ho := List.getElem?_eq_getElem hi2
 generalize os[i] = o at ho
 obtain ⟨ob', e', hob, _, hc⟩ := h.row i o ho
 obtain rfl : ob = ob' := by rw [e] at e'; injection e' with e'; injection e'
 have hc : ∀ k v, (odC o)[k]? = some v → w'.cell? ⟨ob, i * 8 + k, none⟩ = some v := fun k v hv => by
   have := hc k v hv
   exact (cell_of_heap (hK ob (.inr (by omega)) (lt_of_cell this))).trans this
 obtain ⟨l, e2, hl2, hc2, _⟩ := h.ops i o ho
 have hgo := h.old o (List.mem_of_getElem? ho)
 have hc2 : ∀ k v, l[k]? = some v → w'.cell? ⟨o.g, k, none⟩ = some (.int .i64 v) := fun k v hv => (cell_of_heap (hK o.g (.inr (by omega)) hgo.2)).trans (hc2 k v hv)
 have e3 : L.ops[i] = (o.x, l) := (List.getElem?_eq_some_iff.1 e2).2
 rw [e3, Nat.zero_add, Nat.mul_comm 8 i]
 obtain ⟨⟨c, _, _, hcl, hb1, hb64⟩, ⟨r1, r2, r3, r4, r5, r6, r7⟩, hrow⟩ := hX i o ho
 refine ⟨⟨o.n0, o.E, o.ec, hc 0 _ rfl, r1, hc 1 _ rfl, r2, hc 2 _ rfl, r3, hc 3 _ rfl, r4, hc 4 _ rfl, r5, hc 5 _ rfl, r6, r7, hc 6 _ rfl, hrow.fr fun b _ _ x => ⟨x.1, ?_⟩⟩, some ⟨o.g, 0, none⟩, o.x.bits.toNat, by simp only; omega, ?_, ?_⟩
 · have hb := lt_of_cell x.2
   exact (cell_of_heap (hK b (.inl hb) (Nat.lt_of_lt_of_le hb hf.size))).trans (hf.get x.2)
 · have := hc 7 _ rfl
   simp only [hl2]; exact this
 · intro _
   exact ⟨o.g, 0, rfl, fun k hk => by have := hc2 k _ (List.getElem?_eq_getElem hk); simpa [IntC] using this⟩
structure Bt where
 (lit : Nat)
 (arg num : Int)
def wbit (p : Pc) (b : Nat) : Bt := if p.arg = -1 then ⟨chrN p b, -1, 0⟩ else ⟨0, p.arg, p.lo + b⟩
def wP (p : Pc) : Nat → List Bt
 | 0 => []
 | b + 1 => wbit p b :: wP p b
def wL (D : Ds) (args : List Int) : List Pc → List Bt
 | [] => []
 | p :: r => wP p (pcN D args p) ++ wL D args r
theorem wP_len (p : Pc) : ∀ n, (wP p n).length = n
 | 0 => rfl
 | n + 1 => by simp [wP, wP_len p n]
theorem wL_len (D : Ds) (args : List Int) : ∀ l, (wL D args l).length = sumN D args l
 | [] => rfl
 | p :: r => by simp [wL, wP_len, wL_len D args r, sumN]
def putB (x : Bt) (q : Nat) (L : Ly) : Ly := if x.arg = -1 then (if x.lit = 48 then addZ L q else if x.lit = 49 then addU L q else L) else putO L x.arg.toNat x.num.toNat q
theorem putL_B {p : Pc} (h : p.arg = -1 ∨ 0 ≤ p.lo) (b q : Nat) (L : Ly) : putL p b q L = putB (wbit p b) q L := by
 unfold putL putB wbit
 by_cases ha : p.arg = -1
 · simp [ha]
 · have h2 : (p.lo + (b : Int)).toNat = p.lo.toNat + b := by rcases h with h | h <;> omega
   simp [ha, h2]
def layB (o : Int) (bits : Nat) : List Bt → Nat → Ly → Ly
 | [], _, L => L
 | x :: r, wr, L => layB o bits r (wr + 1) (putB x (plcN o wr bits) L)
theorem layB_append (o : Int) (bits : Nat) : ∀ (l1 l2 : List Bt) (wr : Nat) (L : Ly), layB o bits (l1 ++ l2) wr L = layB o bits l2 (wr + l1.length) (layB o bits l1 wr L)
 | [], l2, wr, L => rfl
 | x :: r, l2, wr, L => by
   show layB o bits (r ++ l2) (wr + 1) _ = _
   rw [layB_append o bits r l2 (wr + 1)]
   simp only [List.length_cons, layB]
   congr 1; omega
theorem layP_B {p : Pc} (h : p.arg = -1 ∨ 0 ≤ p.lo) (o : Int) (bits : Nat) : ∀ (n wr : Nat) (L : Ly), layP o bits p n wr L = layB o bits (wP p n) wr L
 | 0, _, _ => rfl
 | n + 1, wr, L => by simp only [layP, wP, layB]; rw [putL_B h, layP_B h o bits n]
theorem layL_B (o : Int) (bits : Nat) {D : Ds} {args : List Int} : ∀ (l : List Pc) (wr : Nat) (L : Ly), (∀ p ∈ l, p.arg = -1 ∨ 0 ≤ p.lo) → layL o bits D args l wr L = layB o bits (wL D args l) wr L
 | [], _, _, _ => rfl
 | p :: r, wr, L, h => by
   simp only [layL, wL]
   rw [layB_append, wP_len, ← layP_B (h p (by simp)), layL_B o bits r _ _ (fun q hq => h q (by simp [hq]))]
theorem pc_lo {D : Ds} {args : List Int} {p : Pc} (h : args.all (clsAtB D) = true) (hn : pcN D args p ≠ 0) : p.arg = -1 ∨ 0 ≤ p.lo := by
 by_cases ha : p.arg = -1
 · exact .inl ha
 · obtain ⟨k, lo, n, _, _, e, _⟩ := pc_right h ha hn
   exact .inr (by omega)
theorem layD_B {D : Ds} {args : List Int} {pcs : List Pc} (h : patN D args pcs ≠ 0) : layD D args pcs = layB D.order (patN D args pcs) (wL D args pcs) 0 (lay0 D args) ∧ (wL D args pcs).length = patN D args pcs := by
 obtain ⟨h1, h2, h3, _⟩ := pat_sum h
 unfold opsB at h1
 rw [Bool.and_eq_true] at h1
 exact ⟨layL_B _ _ _ _ _ fun p hp => pc_lo h1.2 (h3 p hp), by rw [wL_len, h2]⟩
theorem low_bit (n m : Nat) : (lowI n).testBit m = decide (m < n) := by unfold lowI; rw [Nat.testBit_two_pow_sub_one]
theorem wP_mem {p : Pc} (ha : p.arg ≠ -1) : ∀ (n : Nat) (x : Bt), x ∈ wP p n ↔ x.lit = 0 ∧ x.arg = p.arg ∧ ∃ b : Nat, b < n ∧ x.num = p.lo + b
 | 0, x => by simp [wP]
 | n + 1, x => by
   simp only [wP, List.mem_cons, wP_mem ha n x]
   constructor
   · rintro (rfl | ⟨h1, h2, b, hb, h3⟩)
     · unfold wbit; rw [if_neg ha]; exact ⟨rfl, rfl, n, by omega, rfl⟩
     · exact ⟨h1, h2, b, by omega, h3⟩
   · rintro ⟨h1, h2, b, hb, h3⟩
     by_cases e : b = n
     · subst e; left; unfold wbit; rw [if_neg ha]; obtain ⟨l, a, m⟩ := x; simp only at h1 h2 h3; rw [h1, h2, h3]
     · exact .inr ⟨h1, h2, b, by omega, h3⟩
theorem wP_lit {p : Pc} (ha : p.arg = -1) : ∀ (n : Nat) (x : Bt), x ∈ wP p n → x.arg = -1
 | 0, x, h => by simp [wP] at h
 | n + 1, x, h => by
   simp only [wP, List.mem_cons] at h
   rcases h with rfl | h
   · unfold wbit; rw [if_pos ha]
   · exact wP_lit ha n x h
theorem wP_once {p : Pc} (ha : p.arg ≠ -1) : ∀ n : Nat, (wP p n).Pairwise (fun a b => a.arg ≠ -1 → a ≠ b)
 | 0 => by simp [wP]
 | n + 1 => by
   simp only [wP, List.pairwise_cons]
   refine ⟨fun x hx _ e => ?_, wP_once ha n⟩
   obtain ⟨_, _, b, hb, h3⟩ := (wP_mem ha n x).1 hx
   rw [← e] at h3
   unfold wbit at h3
   rw [if_neg ha] at h3
   simp only at h3
   omega
structure Seen (l : List Bt) (seen : List Nat) : Prop where
 len : seen.length = 6
 bit : ∀ k m : Nat, k < 6 → ((seen.getD k 0).testBit m = true ↔ (⟨0, (k : Int), (m : Int)⟩ : Bt) ∈ l)
 once : l.Pairwise (fun a b => a.arg ≠ -1 → a ≠ b)
theorem Seen.step {D : Ds} {args : List Int} (hall : args.all (clsAtB D) = true) (h6 : args.length ≤ 6) {l : List Bt} {b : Nat} {seen : List Nat} (h : Seen l seen) {p : Pc} {b' : Nat} {seen' : List Nat} (he : patF D args (some (b, seen)) p = some (b', seen')) : Seen (l ++ wP p (pcN D args p)) seen' := by
 unfold patF at he
 dsimp only at he
 split at he
 · cases he
 · rename_i hn
   split at he
   · rename_i ha
     simp only [Option.some.injEq, Prod.mk.injEq] at he
     obtain ⟨_, rfl⟩ := he
     refine ⟨h.len, fun k m hk => ?_, ?_⟩
     · rw [h.bit k m hk, List.mem_append]
       constructor
       · exact .inl
       · rintro (h1 | h1)
         · exact h1
         · have := wP_lit ha _ _ h1; simp only at this; omega
     · rw [List.pairwise_append]
       refine ⟨h.once, ?_, fun x _ y hy h1 e => h1 (by rw [e]; exact wP_lit ha _ _ hy)⟩
       exact List.Pairwise.imp_of_mem (R := fun _ _ => True) (fun {a b} ha' _ _ h1 => absurd (wP_lit ha _ _ ha') h1) (List.pairwise_of_forall fun _ _ => trivial)
   · rename_i ha
     split at he
     · rename_i hm
       simp only [Option.some.injEq, Prod.mk.injEq] at he
       obtain ⟨_, rfl⟩ := he
       obtain ⟨k0, lo, n, e1, e2, e3, e4, e5, e6, e7, e8, e9⟩ := pc_right hall ha hn
       have hk0 : p.arg.toNat = k0 := by omega
       rw [hk0] at hm ⊢
       have hmask : ∀ m : Nat, (maskN p).testBit m = true ↔ lo ≤ m ∧ m < lo + n := fun m => by
         rw [e9, Nat.mul_comm, Nat.testBit_two_pow_mul, low_bit]
         simp; omega
       have hw : ∀ k m : Nat, (⟨0, (k : Int), (m : Int)⟩ : Bt) ∈ wP p (pcN D args p) ↔ k = k0 ∧ lo ≤ m ∧ m < lo + n := fun k m => by
         rw [wP_mem ha, ← e5]
         constructor
         · rintro ⟨_, h2, b, hb, h3⟩; simp only at h2 h3; omega
         · rintro ⟨rfl, h2, h3⟩; exact ⟨rfl, e1.symm, m - lo, by omega, by simp only; omega⟩
       have hdis : ∀ m, (seen.getD k0 0).testBit m = true → (maskN p).testBit m = true → False := fun m h1 h2 => by
         have : (seen.getD k0 0 &&& maskN p).testBit m = true := by rw [Nat.testBit_and, h1, h2]; rfl
         rw [hm] at this; simp at this
       refine ⟨by simp [h.len], fun k m hk => ?_, ?_⟩
       · rw [List.mem_append, ← h.bit k m hk, hw]
         by_cases hkk : k = k0
         · subst hkk
           have : (seen.set k (seen.getD k 0 ||| maskN p)).getD k 0 = seen.getD k 0 ||| maskN p := by
             rw [List.getD_eq_getElem?_getD, List.getElem?_set_self (by rw [h.len]; exact hk)]; rfl
           rw [this, Nat.testBit_or, Bool.or_eq_true, hmask]
           simp
         · have : (seen.set k0 (seen.getD k0 0 ||| maskN p)).getD k 0 = seen.getD k 0 := by
             rw [List.getD_eq_getElem?_getD, List.getElem?_set_ne (Ne.symm hkk), ← List.getD_eq_getElem?_getD]
           rw [this]
           simp [hkk]
       · rw [List.pairwise_append]
         refine ⟨h.once, wP_once ha _, fun x hx y hy h1 e => ?_⟩
         subst e
         obtain ⟨l1, a1, m1⟩ := x
         obtain ⟨h2, h3, b2, hb2, h4⟩ := (wP_mem ha _ _).1 hy
         simp only at h2 h3 h4
         have hm1 : m1 = ((lo + b2 : Nat) : Int) := by omega
         subst h2
         rw [show a1 = (k0 : Int) by omega, hm1] at hx hy
         exact hdis (lo + b2) ((h.bit k0 (lo + b2) (by omega)).2 hx) ((hmask _).2 ((hw k0 (lo + b2)).1 hy).2)
     · cases he
theorem seen_fold {D : Ds} {args : List Int} (hall : args.all (clsAtB D) = true) (h6 : args.length ≤ 6) : ∀ (pcs : List Pc) (l : List Bt) (b : Nat) (seen : List Nat) (b' : Nat) (seen' : List Nat), Seen l seen → pcs.foldl (patF D args) (some (b, seen)) = some (b', seen') → Seen (l ++ wL D args pcs) seen'
 | [], l, b, seen, b', seen', h, he => by
   simp only [List.foldl_nil, Option.some.injEq, Prod.mk.injEq] at he
   rw [wL, List.append_nil, ← he.2]; exact h
 | p :: r, l, b, seen, b', seen', h, he => by
   rw [List.foldl_cons] at he
   cases hs : patF D args (some (b, seen)) p with
   | none => rw [hs, patF_none] at he; cases he
   | some s1 =>
     obtain ⟨b1, seen1⟩ := s1
     rw [hs] at he
     have := seen_fold hall h6 r _ b1 seen1 b' seen' (h.step hall h6 hs) he
     rw [wL, ← List.append_assoc]; exact this
structure Once (D : Ds) (args : List Int) (l : List Bt) : Prop where
 has : ∀ k m : Nat, k < args.length → ((⟨0, (k : Int), (m : Int)⟩ : Bt) ∈ l ↔ (m : Int) < bitsAt D args k)
 once : l.Pairwise (fun a b => a.arg ≠ -1 → a ≠ b)
theorem wL_once {D : Ds} {args : List Int} {pcs : List Pc} (h : patN D args pcs ≠ 0) : Once D args (wL D args pcs) := by
 have hops := (pat_sum h).1
 have hops2 := hops
 unfold opsB at hops2
 rw [Bool.and_eq_true] at hops2
 have h6 : args.length ≤ 6 := of_decide_eq_true hops2.1
 unfold patN at h
 rw [if_pos hops] at h
 cases hf : pcs.foldl (patF D args) pat0 with
 | none => rw [hf] at h; exact absurd rfl h
 | some s =>
   obtain ⟨b, seen⟩ := s
   rw [hf] at h
   dsimp only at h
   split at h
   · rename_i hc
     rw [Bool.and_eq_true] at hc
     have hs := seen_fold hops2.2 h6 pcs [] 0 [0, 0, 0, 0, 0, 0] b seen ⟨rfl, fun k m hk => by
       constructor
       · intro h1
         match k, hk with
         | 0, _ => simp at h1
         | 1, _ => simp at h1
         | 2, _ => simp at h1
         | 3, _ => simp at h1
         | 4, _ => simp at h1
         | 5, _ => simp at h1
       · intro h1; exact absurd h1 (by simp), List.Pairwise.nil⟩ hf
     rw [List.nil_append] at hs
     refine ⟨fun k m hk => ?_, hs.once⟩
     have hfull := List.all_eq_true.1 hc.1 k (by simpa using hk)
     have hfull : seen.getD k 0 = lowI (bitsAt D args k).toNat := of_decide_eq_true hfull
     rw [← hs.bit k m (by omega), hfull, low_bit, decide_eq_true_eq]
     have := (args_at hops2.2 hk)
     obtain ⟨c, _, _, _, hb, hb1, _⟩ := this
     omega
   · exact absurd rfl h
theorem hasN_addZ (L : Ly) (q p : Nat) (hp : p < 128) (hq : q < 128) : hasN (addZ L q).z0 (addZ L q).z1 p = true → hasN L.z0 L.z1 p = true ∨ p = q := by
 unfold hasN addZ
 by_cases h1 : q < 64
 · by_cases h2 : p < 64
   · simp only [h1, h2, if_true]
     unfold addN
     rw [Nat.testBit_or, Bool.or_eq_true]
     rintro (h | h)
     · exact .inl h
     · right
       rw [Nat.testBit_two_pow] at h
       have := of_decide_eq_true h; omega
   · simp only [h1, h2, if_true, if_false]; exact .inl
 · by_cases h2 : p < 64
   · simp only [h1, h2, if_true, if_false]; exact .inl
   · simp only [h1, h2, if_false]
     unfold addN
     rw [Nat.testBit_or, Bool.or_eq_true]
     rintro (h | h)
     · exact .inl h
     · right
       rw [Nat.testBit_two_pow] at h
       have := of_decide_eq_true h; omega
theorem hasN_addU (L : Ly) (q p : Nat) (hp : p < 128) (hq : q < 128) : hasN (addU L q).u0 (addU L q).u1 p = true → hasN L.u0 L.u1 p = true ∨ p = q := by
 unfold hasN addU
 by_cases h1 : q < 64
 · by_cases h2 : p < 64
   · simp only [h1, h2, if_true]
     unfold addN
     rw [Nat.testBit_or, Bool.or_eq_true]
     rintro (h | h)
     · exact .inl h
     · right
       rw [Nat.testBit_two_pow] at h
       have := of_decide_eq_true h; omega
   · simp only [h1, h2, if_true, if_false]; exact .inl
 · by_cases h2 : p < 64
   · simp only [h1, h2, if_true, if_false]; exact .inl
   · simp only [h1, h2, if_false]
     unfold addN
     rw [Nat.testBit_or, Bool.or_eq_true]
     rintro (h | h)
     · exact .inl h
     · right
       rw [Nat.testBit_two_pow] at h
       have := of_decide_eq_true h; omega
theorem addZ_else (L : Ly) (q : Nat) : (addZ L q).u0 = L.u0 ∧ (addZ L q).u1 = L.u1 ∧ (addZ L q).ops = L.ops := by unfold addZ; split <;> exact ⟨rfl, rfl, rfl⟩
theorem addU_else (L : Ly) (q : Nat) : (addU L q).z0 = L.z0 ∧ (addU L q).z1 = L.z1 ∧ (addU L q).ops = L.ops := by unfold addU; split <;> exact ⟨rfl, rfl, rfl⟩
structure Fit (β : Nat → Bool) (L : Ly) : Prop where
 z : ∀ p, p < 128 → hasN L.z0 L.z1 p = true → β p = false
 u : ∀ p, p < 128 → hasN L.u0 L.u1 p = true → β p = true
theorem layB_fit {β : Nat → Bool} {o : Int} {bits : Nat} (hb : bits ≤ 120) (h8 : bits % 8 = 0) : ∀ (l : List Bt) (wr : Nat) (L : Ly), wr + l.length = bits → Fit β L →
   (∀ i x, l[i]? = some x → x.arg = -1 → (x.lit = 48 → β (plcN o (wr + i) bits) = false) ∧ (x.lit = 49 → β (plcN o (wr + i) bits) = true)) → Fit β (layB o bits l wr L)
 | [], _, L, _, h, _ => h
 | x :: r, wr, L, hl, h, hx => by
   have hq : plcN o wr bits < 128 := Nat.lt_trans (plcN_lt (by simp at hl; omega) hb h8) (by decide)
   refine layB_fit hb h8 r (wr + 1) _ (by simp at hl; omega) ?_ (fun i y hy ha => by have := hx (i + 1) y (by simpa using hy) ha; rw [show wr + 1 + i = wr + (i + 1) by omega]; exact this)
   unfold putB
   split
   · rename_i ha
     have h0 := hx 0 x rfl ha
     rw [Nat.add_zero] at h0
     split
     · rename_i hc
       obtain ⟨e1, e2, _⟩ := addZ_else L (plcN o wr bits)
       refine ⟨fun p hp hh => ?_, fun p hp hh => by rw [e1, e2] at hh; exact h.u p hp hh⟩
       rcases hasN_addZ L _ p hp hq hh with h1 | rfl
       · exact h.z p hp h1
       · exact h0.1 hc
     · split
       · rename_i hc
         obtain ⟨e1, e2, _⟩ := addU_else L (plcN o wr bits)
         refine ⟨fun p hp hh => by rw [e1, e2] at hh; exact h.z p hp hh, fun p hp hh => ?_⟩
         rcases hasN_addU L _ p hp hq hh with h1 | rfl
         · exact h.u p hp h1
         · exact h0.2 hc
       · exact h
   · exact ⟨h.z, h.u⟩
theorem layB_ops {o : Int} {bits : Nat} {k m : Nat} : ∀ (l : List Bt) (wr : Nat) (L : Ly) (q : Int), (∀ x ∈ l, x.arg ≠ -1 → 0 ≤ x.arg ∧ 0 ≤ x.num ∧ x.lit = 0) → (∃ c a, L.ops[k]? = some (c, a) ∧ a[m]? = some q) →
   (∀ x ∈ l, x ≠ (⟨0, (k : Int), (m : Int)⟩ : Bt)) → ∃ c a, (layB o bits l wr L).ops[k]? = some (c, a) ∧ a[m]? = some q
 | [], _, L, q, _, h, _ => h
 | x :: r, wr, L, q, hx, h, hn => by
   refine layB_ops r (wr + 1) _ q (fun y hy => hx y (by simp [hy])) ?_ (fun y hy => hn y (by simp [hy]))
   obtain ⟨c, a, h1, h2⟩ := h
   unfold putB
   split
   · split
     · rw [(addZ_else L _).2.2]; exact ⟨c, a, h1, h2⟩
     · split
       · rw [(addU_else L _).2.2]; exact ⟨c, a, h1, h2⟩
       · exact ⟨c, a, h1, h2⟩
   · rename_i ha
     obtain ⟨g1, g2, g3⟩ := hx x (by simp) ha
     unfold putO
     by_cases hk : x.arg.toNat = k
     · refine ⟨c, a.set x.num.toNat (plcN o wr bits : Int), by simp [List.getElem?_modify, hk, h1], ?_⟩
       rw [List.getElem?_set_ne]
       · exact h2
       · intro e
         refine hn x (by simp) ?_
         obtain ⟨l1, a1, m1⟩ := x
         simp only at hk e g1 g2 g3
         rw [show a1 = (k : Int) by omega, show m1 = (m : Int) by omega, g3]
     · exact ⟨c, a, by simp [List.getElem?_modify, hk, h1], h2⟩
theorem layB_len {o : Int} {bits : Nat} {k : Nat} : ∀ (l : List Bt) (wr : Nat) (L : Ly) (c : Cl) (n : Nat), (∃ a, L.ops[k]? = some (c, a) ∧ a.length = n) → ∃ a, (layB o bits l wr L).ops[k]? = some (c, a) ∧ a.length = n
 | [], _, L, c, n, h => h
 | x :: r, wr, L, c, n, h => by
   refine layB_len r (wr + 1) _ c n ?_
   obtain ⟨a, h1, h2⟩ := h
   unfold putB
   split
   · split
     · rw [(addZ_else L _).2.2]; exact ⟨a, h1, h2⟩
     · split
       · rw [(addU_else L _).2.2]; exact ⟨a, h1, h2⟩
       · exact ⟨a, h1, h2⟩
   · unfold putO
     by_cases hk : x.arg.toNat = k
     · exact ⟨a.set x.num.toNat (plcN o wr bits : Int), by simp [List.getElem?_modify, hk, h1], by simpa using h2⟩
     · exact ⟨a, by simp [List.getElem?_modify, hk, h1], h2⟩
def BtOk (D : Ds) (args : List Int) (x : Bt) : Prop := (x.arg = -1 ∧ x.num = 0 ∧ (x.lit = 48 ∨ x.lit = 49 ∨ x.lit = 120)) ∨ (x.lit = 0 ∧ ∃ k m : Nat, x.arg = (k : Int) ∧ x.num = (m : Int) ∧ k < args.length ∧ (m : Int) < bitsAt D args k ∧ m < 64)
theorem chr_ok {p : Pc} (hl : litB p.lit = true) {b : Nat} (hb : b < p.lit.size) : chrN p b = 48 ∨ chrN p b = 49 ∨ chrN p b = 120 := by
 have hil : p.lit.size - 1 - b < p.lit.size := by omega
 have hch : chrN p b = (p.lit[p.lit.size - 1 - b]).toNat := by unfold chrN; rw [dif_pos hil]
 have h1 := List.all_eq_true.1 hl (p.lit[p.lit.size - 1 - b]) (by
   have : p.lit[p.lit.size - 1 - b] = p.lit.data.toList[p.lit.size - 1 - b]'(by simpa using hil) := by simp [ByteArray.getElem_eq_getElem_data]
   rw [this]; exact List.getElem_mem _)
 rw [hch]
 unfold litC at h1
 simp only [Bool.or_eq_true, beq_iff_eq] at h1
 rcases h1 with (h1 | h1) | h1 <;> rw [h1] <;> decide
theorem wP_ok {D : Ds} {args : List Int} {p : Pc} (hall : args.all (clsAtB D) = true) (hn : pcN D args p ≠ 0) : ∀ c, c ≤ pcN D args p → ∀ x ∈ wP p c, BtOk D args x
 | 0, _, x, h => by cases h
 | c + 1, hc, x, h => by
   rcases List.mem_cons.1 (by simpa [wP] using h) with h | h
   · subst h
     by_cases ha : p.arg = -1
     · left
       have hl : litB p.lit = true ∧ pcN D args p = p.lit.size := by
         unfold pcN at hn ⊢; rw [if_pos ha] at hn ⊢
         split at hn
         · rename_i h1; rw [if_pos h1]; exact ⟨h1, rfl⟩
         · exact absurd rfl hn
       unfold wbit
       rw [if_pos ha]
       exact ⟨rfl, rfl, chr_ok hl.1 (by omega)⟩
     · right
       obtain ⟨k, lo, n, e1, e2, e3, e4, e5, e6, e7, e8, e9⟩ := pc_right hall ha hn
       unfold wbit
       rw [if_neg ha]
       exact ⟨rfl, k, lo + c, e1, by simp only; omega, e2, by omega, by omega⟩
   · exact wP_ok hall hn c (by omega) x h
theorem wL_ok {D : Ds} {args : List Int} {pcs : List Pc} (h : patN D args pcs ≠ 0) : ∀ x ∈ wL D args pcs, BtOk D args x := by
 obtain ⟨h1, _, h3, _⟩ := pat_sum h
 unfold opsB at h1
 rw [Bool.and_eq_true] at h1
 have key : ∀ l : List Pc, (∀ p ∈ l, pcN D args p ≠ 0) → ∀ x ∈ wL D args l, BtOk D args x := by
   intro l
   induction l with
   | nil => intro _ x hx; cases hx
   | cons p r ih =>
     intro hp x hx
     rw [wL, List.mem_append] at hx
     rcases hx with hx | hx
     · exact wP_ok h1.2 (hp p (by simp)) _ (Nat.le_refl _) x hx
     · exact ih (fun q hq => hp q (by simp [hq])) x hx
 exact key pcs h3
def numF (β : Nat → Bool) (s : Nat × Nat) (p : Int) : Nat × Nat := (s.1 + 1, if β p.toNat then s.2 ||| 2 ^ s.1 else s.2)
def numA (β : Nat → Bool) (l : List Int) : Nat := (l.foldl (numF β) (0, 0)).2
theorem numF_bit (β : Nat → Bool) : ∀ (l : List Int) (k b m : Nat), (l.foldl (numF β) (k, b)).2.testBit m = (b.testBit m || (decide (k ≤ m) && (match l[m - k]? with | some p => β p.toNat | none => false)))
 | [], k, b, m => by simp
 | p :: r, k, b, m => by
   rw [List.foldl_cons, show numF β (k, b) p = (k + 1, if β p.toNat then b ||| 2 ^ k else b) from rfl, numF_bit β r (k + 1)]
   by_cases hm : k ≤ m
   · by_cases he : m = k
     · subst he
       have h2 : decide (m + 1 ≤ m) = false := by simp
       rw [h2]
       cases hb : β p.toNat <;> simp [hb]
     · have e : m - k = (m - (k + 1)) + 1 := by omega
       have h1 : decide (k ≤ m) = true := by simpa using hm
       have h2 : decide (k + 1 ≤ m) = true := by simp; omega
       rw [e, List.getElem?_cons_succ, h1, h2]
       cases hb : β p.toNat
       · simp
       · simp only [if_true, Nat.testBit_or, Nat.testBit_two_pow]
         rw [show decide (k = m) = false by simp; omega]
         simp
   · have h1 : decide (k ≤ m) = false := by simpa using hm
     have h2 : decide (k + 1 ≤ m) = false := by simp; omega
     rw [h1, h2]
     cases hb : β p.toNat
     · simp
     · simp only [if_true, Nat.testBit_or, Nat.testBit_two_pow]
       rw [show decide (k = m) = false by simp; omega]
       simp
theorem numA_bit (β : Nat → Bool) (l : List Int) (m : Nat) : (numA β l).testBit m = (match l[m]? with | some p => β p.toNat | none => false) := by
 unfold numA
 rw [numF_bit]; simp
theorem numF_lit {β : Nat → Bool} {M : Ly} (h : Fit β M) : ∀ (l : List Int), (∀ p ∈ l, 0 ≤ p ∧ p < 128) → ∀ (k b k' b' : Nat), l.foldl (litF M.z0 M.z1 M.u0 M.u1) (some (k, b)) = some (k', b') → l.foldl (numF β) (k, b) = (k', b')
 | [], _, k, b, k', b', he => by
   simp only [List.foldl_nil, Option.some.injEq] at he ⊢
   exact he
 | p :: r, hp, k, b, k', b', he => by
   rw [List.foldl_cons] at he ⊢
   have hp0 := hp p (by simp)
   have hlt : p.toNat < 128 := by omega
   unfold litF at he
   unfold numF
   simp only at he ⊢
   by_cases h1 : hasN M.u0 M.u1 p.toNat = true
   · rw [if_pos h1] at he
     rw [if_pos (h.u _ hlt h1)]
     exact numF_lit h r (fun q hq => hp q (by simp [hq])) _ _ _ _ he
   · rw [if_neg h1] at he
     by_cases h2 : hasN M.z0 M.z1 p.toNat = true
     · rw [if_pos h2] at he
       rw [h.z _ hlt h2]
       exact numF_lit h r (fun q hq => hp q (by simp [hq])) _ _ _ _ he
     · rw [if_neg h2] at he
       have : r.foldl (litF M.z0 M.z1 M.u0 M.u1) none = none := litF_none _ _ _ _ r
       have he : r.foldl (litF M.z0 M.z1 M.u0 M.u1) none = some (k', b') := he
       rw [this] at he; cases he
structure FitL (β : Nat → Bool) (L : Ly) : Prop where
 fit : Fit β L
 val : ∀ x ∈ L.ops, valI x.1 (numA β x.2) ∉ x.1.ex
theorem ex_no {D : Ds} {β : Nat → Bool} {L M : Ly} (hL : LyOk D L) (h : FitL β L) (k : Fit β M) : exB L M = false := by
 cases he : exB L M with
 | false => rfl
 | true =>
   unfold exB at he
   obtain ⟨x, hx, hv⟩ := List.any_eq_true.1 he
   unfold exO at hv
   split at hv
   · cases hv
   · rename_i n b hl
     have hnum := numF_lit k x.2 (hL.at_ x hx) 0 0 n b hl
     have : numA β x.2 = b := by unfold numA; rw [hnum]
     exact absurd (by rw [this]; simpa using hv) (h.val x hx)
theorem meet_no {β : Nat → Bool} {a b c d : Nat} (ha : a < 18446744073709551616) (hb : b < 18446744073709551616) (hz : ∀ p, p < 128 → hasN a b p = true → β p = false) (hu : ∀ p, p < 128 → hasN c d p = true → β p = true) : mtN a b c d = false := by
 have key : ∀ x y q : Nat, x < 18446744073709551616 → (∀ i, i < 64 → x.testBit i = true → y.testBit i = true → False) → x &&& y = 0 := fun x y q hx h => by
   apply Nat.eq_of_testBit_eq
   intro i
   rw [Nat.testBit_and, Nat.zero_testBit]
   cases h1 : x.testBit i with
   | false => rfl
   | true =>
     have hi : i < 64 := by
       rcases Nat.lt_or_ge i 64 with h2 | h2
       · exact h2
       · have := Nat.testBit_lt_two_pow (x := x) (i := i) (Nat.lt_of_lt_of_le hx (by
           have : 2 ^ 64 ≤ 2 ^ i := Nat.pow_le_pow_right (by decide) h2
           simpa using this))
         rw [this] at h1; cases h1
     cases h2 : y.testBit i with
     | false => rfl
     | true => exact (h i hi h1 h2).elim
 have e1 : a &&& c = 0 := key a c 0 ha fun i hi h1 h2 => by
   have x1 := hz i (by omega) (by unfold hasN; rw [if_pos hi, Nat.mod_eq_of_lt hi]; exact h1)
   have x2 := hu i (by omega) (by unfold hasN; rw [if_pos hi, Nat.mod_eq_of_lt hi]; exact h2)
   rw [x1] at x2; cases x2
 have e2 : b &&& d = 0 := key b d 0 hb fun i hi h1 h2 => by
   have hm : (64 + i) % 64 = i := by omega
   have x1 := hz (64 + i) (by omega) (by unfold hasN; rw [if_neg (by omega), hm]; exact h1)
   have x2 := hu (64 + i) (by omega) (by unfold hasN; rw [if_neg (by omega), hm]; exact h2)
   rw [x1] at x2; cases x2
 unfold mtN
 rw [e1, e2]; simp
theorem apart_no {D : Ds} {β : Nat → Bool} {L M : Ly} (hL : LyOk D L) (hM : LyOk D M) (h : FitL β L) (k : FitL β M) : apB L M = false := by
 unfold apB
 rw [meet_no hL.z0 hL.z1 h.fit.z k.fit.u, ex_no hL h k.fit, ex_no hM k h.fit]
 have : mtN L.u0 L.u1 M.z0 M.z1 = mtN M.z0 M.z1 L.u0 L.u1 := by unfold mtN; rw [Nat.and_comm L.u0, Nat.and_comm L.u1]
 rw [this, meet_no hM.z0 hM.z1 k.fit.z h.fit.u]
 rfl
theorem putB_ok {D : Ds} {L : Ly} (h : LyOk D L) (x : Bt) {q : Nat} (hq : q < 128) : LyOk D (putB x q L) := by
 unfold putB
 split
 · split
   · exact addZ_ok h q
   · split
     · exact addU_ok h q
     · exact h
 · exact putO_ok h _ _ hq
theorem layB_ok {D : Ds} {o : Int} {bits : Nat} (hb : bits ≤ 120) (h8 : bits % 8 = 0) : ∀ (l : List Bt) (wr : Nat) (L : Ly), wr + l.length = bits → LyOk D L → LyOk D (layB o bits l wr L)
 | [], _, L, _, h => h
 | x :: r, wr, L, hl, h => layB_ok hb h8 r (wr + 1) _ (by simp at hl; omega) (putB_ok h x (Nat.lt_trans (plcN_lt (by simp at hl; omega) hb h8) (by decide)))
theorem layD_ok {D : Ds} {args : List Int} {pcs : List Pc} (h : patN D args pcs ≠ 0) : LyOk D (layD D args pcs) := by
 obtain ⟨e, el⟩ := layD_B h
 obtain ⟨h1, _, _, h8, hb⟩ := pat_sum h
 unfold opsB at h1
 rw [Bool.and_eq_true] at h1
 rw [e]
 exact layB_ok hb h8 _ 0 _ (by omega) (lay0_ok (of_decide_eq_true h1.1) h1.2)
set_option maxHeartbeats 3200000 in
set_option maxRecDepth 100000 in
theorem cset_any (lb o x0 x1 : Nat) (h0 : x0 < 18446744073709551616) (h1 : x1 < 18446744073709551616) (p : Nat) (hp : p < 128) (w : World) (c0 : w.cell? ⟨lb, o, none⟩ = some (.int .u64 (x0 : Int))) (c1 : w.cell? ⟨lb, o + 1, none⟩ = some (.int .u64 (x1 : Int)))
   (f0 : w.frozen? ⟨lb, o, none⟩ = false) (f1 : w.frozen? ⟨lb, o + 1, none⟩ = false) :
   Calls Tryz.prog 61 #[.pointer (some ⟨lb, o, none⟩), .int .i64 (p : Int)] w fun e w' => e = .returned (.tuple #[]) ∧ ∃ n, w' = (w.drewN n).setCell ⟨lb, o + p / 64, none⟩ (.int .u64 (addN (if p < 64 then x0 else x1) p : Int)) := by
 have zl := lt_of_cell c0
 by_cases hq : p < 64
 · have e1 : Int.tdiv (p : Int) 64 = 0 := by rw [Int.tdiv_eq_ediv_of_nonneg (by omega)]; omega
   have e2 : Int.tmod (p : Int) 64 = (p : Int) := by rw [Int.tmod_eq_emod_of_nonneg (by omega)]; omega
   have em : p % 64 = p := by omega
   have ed : p / 64 = 0 := by omega
   have HA := Lib.hid (show addN (if p < 64 then x0 else x1) p = x0 ||| 2 ^ p by rw [if_pos hq]; unfold addN; rw [em])
   rw [HA.out, ed, Nat.add_zero]
   have hw0 : IntKind.i64.wrap 0 = 0 := by decide
   have hwp : IntKind.i64.wrap (p : Int) = (p : Int) := by simp [IntKind.wrap, IntKind.bits, IntKind.signed]; omega
   have hs := one_shl ⟨p, hq⟩
   have hs2 := one_shl2 ⟨p, hq⟩
   have ho := u64_or_nat x0 (2 ^ p) h0 (pow_u64 ⟨p, hq⟩)
   simp only at hs hs2
   clear em ed HA
   generalize x0 ||| 2 ^ p = y at *
   generalize hz : 2 ^ p = z at *
   go_enter Tryz.func61, Tryz.ntmps61
   go_wp2
   go_still_tail 12, (by kernel_rfl)
   change wpList _ _ _ _ _ w.drew
   go_wp2
   go_end0
   exact ⟨rfl, 1, rfl⟩
 · obtain ⟨r, rfl⟩ : ∃ r, p = 64 + r := ⟨p - 64, by omega⟩
   have hr : r < 64 := by omega
   have e1 : Int.tdiv ((64 : Int) + (r : Int)) 64 = 1 := by rw [Int.tdiv_eq_ediv_of_nonneg (by omega)]; omega
   have e2 : Int.tmod ((64 : Int) + (r : Int)) 64 = (r : Int) := by rw [Int.tmod_eq_emod_of_nonneg (by omega)]; omega
   have em : (64 + r) % 64 = r := by omega
   have ed : (64 + r) / 64 = 1 := by omega
   have HA := Lib.hid (show addN (if 64 + r < 64 then x0 else x1) (64 + r) = x1 ||| 2 ^ r by rw [if_neg hq]; unfold addN; rw [em])
   rw [HA.out, ed]
   have hw0 : IntKind.i64.wrap 1 = 1 := by decide
   have hwp : IntKind.i64.wrap (r : Int) = (r : Int) := by simp [IntKind.wrap, IntKind.bits, IntKind.signed]; omega
   have hs := one_shl ⟨r, hr⟩
   have hs2 := one_shl2 ⟨r, hr⟩
   have ho := u64_or_nat x1 (2 ^ r) h1 (pow_u64 ⟨r, hr⟩)
   simp only at hs hs2
   clear em ed HA
   generalize x1 ||| 2 ^ r = y at *
   generalize hz : 2 ^ r = z at *
   go_enter Tryz.func61, Tryz.ntmps61
   go_wp2
   go_still_tail 12, (by kernel_rfl)
   change wpList _ _ _ _ _ w.drew
   go_wp2
   go_end0
   exact ⟨rfl, 1, rfl⟩
theorem cplace_any (order : Int) (written bits : Nat) (hw : written ≤ 1000000) (hb : bits ≤ 1000000) (w : World) : Calls Tryz.prog 60 #[.int .i64 order, .int .i64 (written : Int), .int .i64 (bits : Int)] w fun e w' => e = .returned (.int .i64 (plcI order written bits)) ∧ w = w' := by
 by_cases ho : order = 1
 · subst ho
   go_enter Tryz.func60, Tryz.ntmps60
   go_wp2
   go_ret
   exact ⟨ret_int (by simp [plcI]), rfl⟩
 · have e1 : Int.tdiv (written : Int) 8 = ((written / 8 : Nat) : Int) := by simp
   have e2 : Int.tmod (written : Int) 8 = ((written % 8 : Nat) : Int) := by rw [Int.tmod_eq_emod_of_nonneg (by omega)]; simp
   go_enter Tryz.func60, Tryz.ntmps60
   go_wp2
   go_ret
   exact ⟨ret_int (by simp only [plcI, if_neg ho]; omega), rfl⟩
theorem cbits_any {D : Ds} {args : List Int} (p : Pc) (hall : args.all (clsAtB D) = true) (hn : pcN D args p ≠ 0) (hls : p.lit.size ≤ 1048576) (w : World) :
   Calls Tryz.prog 58 #[.agg #[.string p.lit, .int .i64 p.arg, .int .i64 p.hi, .int .i64 p.lo]] w fun e w' => e = .returned (.int .i64 (pcN D args p : Int)) ∧ Fr w w' := by
 by_cases ha : p.arg = -1
 · have hl : pcN D args p = p.lit.size := by
     unfold pcN at hn ⊢; rw [if_pos ha] at hn ⊢
     split at hn
     · rename_i h1; rw [if_pos h1]
     · exact absurd rfl hn
   rw [hl, ha]
   have hlz : p.lit.size ≤ 9223372036854775807 := Nat.le_trans hls (by decide)
   generalize p.lit = lit at *
   generalize p.hi = hi at *
   generalize p.lo = lo at *
   clear hn hl ha
   go_enter Tryz.func58, Tryz.ntmps58
   go_wp2
   go_ret
   exact ⟨rfl, Fr.alloc (Fr.refl w) _⟩
 · obtain ⟨k, lo, n, e1, e2, e3, e4, e5, e6, e7, e8, e9⟩ := pc_right hall ha hn
   rw [← e5, e1, e3, e4]
   have hk : ((k : Int) == -1) = false := by rw [beq_eq_false_iff_ne]; omega
   have hk2 : ¬ (k : Int) = -1 := by omega
   generalize p.lit = lit at *
   obtain ⟨hi, hhi⟩ : ∃ hi : Nat, ((lo + n : Nat) : Int) - 1 = (hi : Int) := ⟨lo + n - 1, by omega⟩
   have hr : (hi : Int) - (lo : Int) + 1 = (n : Int) := by omega
   have hh : hi ≤ 64 := by omega
   have hll : lo ≤ 64 := by omega
   rw [hhi]
   clear hn ha e1 e3 e4 e5 e7 e9 hhi
   go_enter Tryz.func58, Tryz.ntmps58
   go_wp2
   go_ret
   exact ⟨by first | rfl | exact ret_int (by omega), Fr.alloc (Fr.refl w) _⟩
structure Cf where
 (size l0 l1 u0 u1 : Nat)
 canon : Bool
 ops : List (Int × List Int)
def cLit (f : Cf) (q : Nat) : Cf := if q < 64 then { f with l0 := addN f.l0 q } else { f with l1 := addN f.l1 q }
def cOne (f : Cf) (q : Nat) : Cf := if q < 64 then { f with u0 := addN f.u0 q } else { f with u1 := addN f.u1 q }
def cArg (f : Cf) (k i q : Nat) : Cf := { f with ops := f.ops.modify k fun x => (x.1, x.2.set i (q : Int)) }
def putC (x : Bt) (q : Nat) (f : Cf) : Cf := if x.arg = -1 then (if x.lit = 120 then { f with canon := false } else if x.lit = 49 then cLit (cOne f q) q else cLit f q) else cArg f x.arg.toNat x.num.toNat q
def layC (o : Int) (bits : Nat) : List Bt → Nat → Cf → Cf
 | [], _, f => f
 | x :: r, wr, f => layC o bits r (wr + 1) (putC x (plcN o wr bits) f)
def op0C (D : Ds) (c : Int) : Int × List Int := (c, List.replicate ((D.cls[c.toNat]?).getD ⟨0, 0, 0, 0, 0, []⟩).bits.toNat 0)
def cf0 (D : Ds) (args : List Int) (size : Nat) : Cf := ⟨size, 0, 0, 0, 0, true, args.map (op0C D)⟩
def layCD (D : Ds) (args : List Int) (pcs : List Pc) : Cf := layC D.order (patN D args pcs) (wL D args pcs) 0 (cf0 D args (patN D args pcs / 8))
structure CfOk (f : Cf) : Prop where
 l0 : f.l0 < 18446744073709551616
 l1 : f.l1 < 18446744073709551616
 u0 : f.u0 < 18446744073709551616
 u1 : f.u1 < 18446744073709551616
theorem cLit_ok {f : Cf} (h : CfOk f) (q : Nat) : CfOk (cLit f q) := by
 unfold cLit; split
 · exact ⟨addN_lt h.l0, h.l1, h.u0, h.u1⟩
 · exact ⟨h.l0, addN_lt h.l1, h.u0, h.u1⟩
theorem cOne_ok {f : Cf} (h : CfOk f) (q : Nat) : CfOk (cOne f q) := by
 unfold cOne; split
 · exact ⟨h.l0, h.l1, addN_lt h.u0, h.u1⟩
 · exact ⟨h.l0, h.l1, h.u0, addN_lt h.u1⟩
theorem putC_ok {f : Cf} (h : CfOk f) (x : Bt) (q : Nat) : CfOk (putC x q f) := by
 unfold putC
 split
 · split
   · exact ⟨h.l0, h.l1, h.u0, h.u1⟩
   · split
     · exact cLit_ok (cOne_ok h q) q
     · exact cLit_ok h q
 · exact ⟨h.l0, h.l1, h.u0, h.u1⟩
structure Oc where
 cls : Int
 (bits g : Nat)
def ocC (o : Oc) : List Value := [.int .i64 o.cls, .slice (some ⟨o.g, 0, none⟩) o.bits o.bits]
def flatC (os : List Oc) : List Value := os.flatMap ocC
theorem flatC_snoc (os : List Oc) (o : Oc) : flatC (os ++ [o]) = flatC os ++ ocC o := by simp [flatC]
theorem flatC_get : ∀ (os : List Oc) (i : Nat) (o : Oc) (k : Nat) (v : Value), os[i]? = some o → (ocC o)[k]? = some v → (flatC os)[i * 2 + k]? = some v
 | [], i, o, k, v, h, _ => by simp at h
 | a :: r, 0, o, k, v, h, hk => by
   obtain rfl : a = o := by simpa using h
   have : k < (ocC a).length := (List.getElem?_eq_some_iff.1 hk).1
   simp only [flatC, List.flatMap_cons, Nat.zero_mul, Nat.zero_add]
   rw [List.getElem?_append_left this]; exact hk
 | a :: r, i + 1, o, k, v, h, hk => by
   have hl : (ocC a).length = 2 := rfl
   simp only [flatC, List.flatMap_cons]
   rw [List.getElem?_append_right (by rw [hl]; omega), hl, show (i + 1) * 2 + k - 2 = i * 2 + k by omega]
   exact flatC_get r i o k v (by simpa using h) hk
def cfV (f : Cf) (O : Option Addr) (n oc : Nat) : List Value := [.int .i64 (f.size : Int), .int .u64 (f.l0 : Int), .int .u64 (f.l1 : Int), .int .u64 (f.u0 : Int), .int .u64 (f.u1 : Int), .bool f.canon, .slice O n oc]
structure CfAt (lb base : Nat) (wr : World) (O : Option Addr) (oc : Nat) (os : List Oc) (f : Cf) : Prop where
 blk : BlkAt wr lb (cfV f O os.length oc)
 free : ∀ k, wr.frozen? ⟨lb, k, none⟩ = false
 len : f.ops.length = os.length
 row : ∀ (i : Nat) (o : Oc), os[i]? = some o → ∃ ob : Nat, O = some ⟨ob, 0, none⟩ ∧ base ≤ ob ∧ (∀ o' ∈ os, o'.g ≠ ob) ∧ ∀ (k : Nat) (v : Value), (ocC o)[k]? = some v → wr.cell? ⟨ob, i * 2 + k, none⟩ = some v
 ops : ∀ (i : Nat) (o : Oc), os[i]? = some o → ∃ l : List Int, f.ops[i]? = some (o.cls, l) ∧ l.length = o.bits ∧ (∀ (k : Nat) (v : Int), l[k]? = some v → wr.cell? ⟨o.g, k, none⟩ = some (.int .i64 v)) ∧ (∀ k, wr.frozen? ⟨o.g, k, none⟩ = false)
 old : ∀ o ∈ os, base ≤ o.g ∧ o.g < wr.heap.size
 apart : (os.map (·.g)).Nodup
 lb_ : lb < base
theorem CfAt.fr {lb base oc : Nat} {wr w' : World} {O : Option Addr} {os : List Oc} {f : Cf} (h : CfAt lb base wr O oc os f) (k : Fr wr w') : CfAt lb base w' O oc os f := by
 refine ⟨h.blk.fr k, fun i => (k.cells.2.1 _ i (lt_of_cell (h.blk 0 _ rfl))).trans (h.free i), h.len, fun i o ho => ?_, fun i o ho => ?_, fun o ho => ?_, h.apart, h.lb_⟩
 · obtain ⟨ob, e, hb, hn, hc⟩ := h.row i o ho
   exact ⟨ob, e, hb, hn, fun j v hv => k.get (hc j v hv)⟩
 · obtain ⟨l, e, hl, hc, hf⟩ := h.ops i o ho
   exact ⟨l, e, hl, fun j v hv => k.get (hc j v hv), fun j => (k.cells.2.1 _ j (h.old o (List.mem_of_getElem? ho)).2).trans (hf j)⟩
 · exact ⟨(h.old o ho).1, Nat.lt_of_lt_of_le (h.old o ho).2 k.size⟩
theorem CfAt.arg {lb base oc k i q : Nat} {wr : World} {O : Option Addr} {os : List Oc} {f : Cf} {o : Oc} (h : CfAt lb base wr O oc os f) (ho : os[k]? = some o) : CfAt lb base (wr.setCell ⟨o.g, i, none⟩ (.int .i64 (q : Int))) O oc os (cArg f k i q) := by
 have hg := h.old o (List.mem_of_getElem? ho)
 have hl := h.lb_
 refine ⟨blk_other h.blk (by simp only; omega), fun j => by rw [World.frozen?_setCell]; exact h.free j, by simpa [cArg] using h.len, fun j o' ho' => ?_, fun j o' ho' => ?_, fun o' ho' => by simpa using h.old o' ho', h.apart, hl⟩
 · obtain ⟨ob, e, hb, hn, hc⟩ := h.row j o' ho'
   exact ⟨ob, e, hb, hn, fun m v hv => by rw [World.cell?_setCell_other _ _ _ _ (fun e2 => hn o (List.mem_of_getElem? ho) (by injection e2))]; exact hc m v hv⟩
 · obtain ⟨l, e, hl, hc, hf⟩ := h.ops j o' ho'
   by_cases hj : k = j
   · subst hj
     obtain rfl : o = o' := Option.some.inj (ho.symm.trans ho')
     refine ⟨l.set i (q : Int), by simp [cArg, List.getElem?_modify, e], by simpa using hl, fun m v hv => ?_, fun m => by rw [World.frozen?_setCell]; exact hf m⟩
     by_cases hm : i = m
     · subst hm
       have hlt : i < l.length := by
         rcases Nat.lt_or_ge i l.length with h1 | h1
         · exact h1
         · rw [List.getElem?_eq_none (by simpa using h1)] at hv; cases hv
       rw [List.getElem?_set_self hlt] at hv
       injection hv with hv
       rw [World.cell?_setCell_same _ _ _ (hc i _ (List.getElem?_eq_getElem hlt)), hv]
     · rw [List.getElem?_set_ne hm] at hv
       rw [World.cell?_setCell_other _ _ _ _ (by intro e2; injection e2 with e2 e3; exact hm e3)]; exact hc m v hv
   · have hne : o.g ≠ o'.g := fun e2 => hj (by
       have h1 : (os.map (·.g))[k]? = some o.g := by simp [ho]
       have h2 : (os.map (·.g))[j]? = some o.g := by simp [ho', e2]
       have hk1 := (List.getElem?_eq_some_iff.1 h1).1
       have hj1 := (List.getElem?_eq_some_iff.1 h2).1
       have hp := List.pairwise_iff_getElem.1 h.apart
       rcases Nat.lt_trichotomy k j with h3 | h3 | h3
       · exact absurd ((List.getElem?_eq_some_iff.1 h1).2.trans (List.getElem?_eq_some_iff.1 h2).2.symm) (hp k j hk1 hj1 h3)
       · exact h3
       · exact absurd ((List.getElem?_eq_some_iff.1 h2).2.trans (List.getElem?_eq_some_iff.1 h1).2.symm) (hp j k hj1 hk1 h3))
     refine ⟨l, by simp [cArg, List.getElem?_modify, e, hj], hl, fun m v hv => ?_, fun m => by rw [World.frozen?_setCell]; exact hf m⟩
     rw [World.cell?_setCell_other _ _ _ _ (by intro e2; injection e2 with e2 e3; exact hne e2)]; exact hc m v hv
theorem CfAt.sets {lb base oc k : Nat} {wr : World} {O : Option Addr} {os : List Oc} {f f' : Cf} {v : Value} (h : CfAt lb base wr O oc os f) (hb : BlkAt (wr.setCell ⟨lb, k, none⟩ v) lb (cfV f' O os.length oc)) (he : f'.ops = f.ops) :
   CfAt lb base (wr.setCell ⟨lb, k, none⟩ v) O oc os f' := by
 have hl := h.lb_
 refine ⟨hb, fun j => by rw [World.frozen?_setCell]; exact h.free j, by rw [he]; exact h.len, fun j o' ho' => ?_, fun j o' ho' => ?_, fun o' ho' => by simpa using h.old o' ho', h.apart, hl⟩
 · obtain ⟨ob, e, hb, hn, hc⟩ := h.row j o' ho'
   exact ⟨ob, e, hb, hn, fun m v hv => by rw [World.cell?_setCell_other _ _ _ _ (fun e2 => by injection e2 with e2 e3; omega)]; exact hc m v hv⟩
 · obtain ⟨l, e, hl2, hc, hf⟩ := h.ops j o' ho'
   have hg := h.old o' (List.mem_of_getElem? ho')
   exact ⟨l, by rw [he]; exact e, hl2, fun m v hv => by rw [World.cell?_setCell_other _ _ _ _ (fun e2 => by injection e2 with e2 e3; omega)]; exact hc m v hv, fun m => by rw [World.frozen?_setCell]; exact hf m⟩
theorem CfAt.lit {lb base oc q : Nat} {wr : World} {O : Option Addr} {os : List Oc} {f : Cf} (h : CfAt lb base wr O oc os f) (hq : q < 128) : CfAt lb base (wr.setCell ⟨lb, 1 + q / 64, none⟩ (.int .u64 (addN (if q < 64 then f.l0 else f.l1) q : Int))) O oc os (cLit f q) := by
 by_cases h6 : q < 64
 · have e : 1 + q / 64 = 1 := by omega
   rw [e, if_pos h6]
   refine h.sets ?_ (by simp [cLit, h6])
   have := blk_put (v := .int .u64 (addN f.l0 q : Int)) h.blk (k := 1) rfl
   simpa [cLit, h6, cfV] using this
 · have e : 1 + q / 64 = 2 := by omega
   rw [e, if_neg h6]
   refine h.sets ?_ (by simp [cLit, h6])
   have := blk_put (v := .int .u64 (addN f.l1 q : Int)) h.blk (k := 2) rfl
   simpa [cLit, h6, cfV] using this
theorem CfAt.one {lb base oc q : Nat} {wr : World} {O : Option Addr} {os : List Oc} {f : Cf} (h : CfAt lb base wr O oc os f) (hq : q < 128) : CfAt lb base (wr.setCell ⟨lb, 3 + q / 64, none⟩ (.int .u64 (addN (if q < 64 then f.u0 else f.u1) q : Int))) O oc os (cOne f q) := by
 by_cases h6 : q < 64
 · have e : 3 + q / 64 = 3 := by omega
   rw [e, if_pos h6]
   refine h.sets ?_ (by simp [cOne, h6])
   have := blk_put (v := .int .u64 (addN f.u0 q : Int)) h.blk (k := 3) rfl
   simpa [cOne, h6, cfV] using this
 · have e : 3 + q / 64 = 4 := by omega
   rw [e, if_neg h6]
   refine h.sets ?_ (by simp [cOne, h6])
   have := blk_put (v := .int .u64 (addN f.u1 q : Int)) h.blk (k := 4) rfl
   simpa [cOne, h6, cfV] using this
theorem CfAt.x {lb base oc : Nat} {wr : World} {O : Option Addr} {os : List Oc} {f : Cf} (h : CfAt lb base wr O oc os f) : CfAt lb base (wr.setCell ⟨lb, 5, none⟩ (.bool false)) O oc os { f with canon := false } := by
 refine h.sets ?_ rfl
 have := blk_put (v := .bool false) h.blk (k := 5) rfl
 simpa [cfV] using this
theorem layAt_lb {lb base oc : Nat} {wr : World} {O : Option Addr} {os : List Od} {L : Ly} (h : LayAt lb base wr O oc os L) : lb < wr.heap.size := lt_of_cell (h.blk 0 _ rfl)
theorem put_any {D : Ds} {args : List Int} {lb base oc : Nat} {w0 wr : World} {O : Option Addr} {os : List Od} {L : Ly} {p : Pc} {b q : Nat} (h : LayAt lb base wr O oc os L) (hok : LyOk D L) (hX : ∀ i o, os[i]? = some o → OdX D args w0 i o) (hos : os.length = args.length)
   (hall : args.all (clsAtB D) = true) (hb : b < pcN D args p) (hq : q < 128) (hls : p.lit.size ≤ maxLen) :
   Calls Tryz.prog 73 #[.pointer (some ⟨lb, 0, none⟩), .agg #[.string p.lit, .int .i64 p.arg, .int .i64 p.hi, .int .i64 p.lo], .int .i64 (b : Int), .int .i64 (q : Int)] wr fun e w' =>
     e = .returned (.tuple #[]) ∧ Below lb wr w' ∧ LayAt lb base w' O oc os (putL p b q L) ∧ ∀ b', b' < wr.heap.size → b' ≠ lb → (∀ o ∈ os, o.g ≠ b') → w'.heap[b']? = wr.heap[b']? := by
 have hlb := layAt_lb h
 have hlt := h.lb_
 have hn : pcN D args p ≠ 0 := by omega
 by_cases ha : p.arg = -1
 · have hpl : putL p b q L = if chrN p b = 48 then addZ L q else if chrN p b = 49 then addU L q else L := by unfold putL; rw [if_pos ha]
   rw [hpl]
   have hl : litB p.lit = true ∧ pcN D args p = p.lit.size := by
     unfold pcN at hn ⊢; rw [if_pos ha] at hn ⊢
     split at hn
     · rename_i h1; rw [if_pos h1]; exact ⟨h1, rfl⟩
     · exact absurd rfl hn
   have hbs : b < p.lit.size := by omega
   have hib : (p.lit.size - 1 - b) + b + 1 = p.lit.size := by omega
   have hil : p.lit.size - 1 - b < p.lit.size := by omega
   have hch : chrN p b = (p.lit[p.lit.size - 1 - b]).toNat := by unfold chrN; rw [dif_pos hil]
   have hcc : chrN p b = 48 ∨ chrN p b = 49 ∨ chrN p b = 120 := by
     have h1 := List.all_eq_true.1 hl.1 (p.lit[p.lit.size - 1 - b]) (by
       have : p.lit[p.lit.size - 1 - b] = p.lit.data.toList[p.lit.size - 1 - b]'(by simpa using hil) := by simp [ByteArray.getElem_eq_getElem_data]
       rw [this]; exact List.getElem_mem _)
     rw [hch]
     unfold litC at h1
     simp only [Bool.or_eq_true, beq_iff_eq] at h1
     rcases h1 with (h1 | h1) | h1 <;> rw [h1] <;> decide
   have ea : (Value.int .i64 p.arg) = .int .i64 (-1) := by rw [ha]
   rw [ea]
   have c0 := h.blk 0 _ rfl; have c1 := h.blk 1 _ rfl; have c2 := h.blk 2 _ rfl; have c3 := h.blk 3 _ rfl
   rcases hcc with hc | hc | hc
   · rw [if_pos hc]
     refine (put_zero lb L.z0 L.z1 b _ q hok.z0 hok.z1 p.lit p.hi p.lo hib hls hil (by rw [← hch]; exact hc) hq c0 c1 (h.free 0) (h.free 1)).mono ?_
     rintro e w' ⟨rfl, n, rfl⟩
     have k : Fr wr ((wr.alloc (.cells #[.string p.lit, .int .i64 (-1), .int .i64 p.hi, .int .i64 p.lo] 148)).drewN n) := Fr.drewN (Fr.alloc (Fr.refl _) _) n
     have kb : Below lb wr _ := Below.mono (B := wr.heap.size) k (by omega)
     exact ⟨rfl, Below.setCell kb (Nat.le_refl lb) _, (h.fr k).zero hq, fun b' h1 h2 _ => (Below.heap_setCell _ _ _ b' h2).trans (k.block b' h1)⟩
   · rw [if_neg (by omega), if_pos hc]
     refine (put_one lb L.u0 L.u1 b _ q hok.u0 hok.u1 p.lit p.hi p.lo hib hls hil (by rw [← hch]; exact hc) hq c2 c3 (h.free 2) (h.free 3)).mono ?_
     rintro e w' ⟨rfl, n, rfl⟩
     have k : Fr wr ((wr.alloc (.cells #[.string p.lit, .int .i64 (-1), .int .i64 p.hi, .int .i64 p.lo] 148)).drewN n) := Fr.drewN (Fr.alloc (Fr.refl _) _) n
     have kb : Below lb wr _ := Below.mono (B := wr.heap.size) k (by omega)
     exact ⟨rfl, Below.setCell kb (Nat.le_refl lb) _, (h.fr k).one hq, fun b' h1 h2 _ => (Below.heap_setCell _ _ _ b' h2).trans (k.block b' h1)⟩
   · rw [if_neg (by omega), if_neg (by omega)]
     refine (put_x lb b _ (q : Int) p.lit p.hi p.lo hib hls hil (by rw [← hch]; exact hc)).mono ?_
     rintro e w' ⟨rfl, k⟩
     exact ⟨rfl, Below.mono k (by omega), h.fr k, fun b' h1 _ _ => k.block b' h1⟩
 · obtain ⟨k, lo, n, e1, e2, e3, e4, e5, e6, e7, e8, e9⟩ := pc_right hall ha hn
   have hpl : putL p b q L = putO L k (lo + b) q := by unfold putL; rw [if_neg ha, e1, e3]; simp
   rw [hpl]
   have hk : k < os.length := by omega
   have ho := List.getElem?_eq_getElem hk
   generalize os[k] = o at ho
   obtain ⟨ob, rfl, _, _, hc⟩ := h.row k o ho
   obtain ⟨l, el, hl, hcl, hfr⟩ := h.ops k o ho
   obtain ⟨⟨c, x1, x2, x3, x4, x5⟩, _, _⟩ := hX k o ho
   have hba : bitsAt D args k = o.x.bits := by unfold bitsAt; rw [x1]; dsimp only; rw [Int.toNat_natCast, x2]
   have hlen : lo + b < l.length := by rw [hba] at e7; omega
   have c7 := hc 7 _ rfl
   have c4 := h.blk 4 _ rfl
   have cg := hcl (lo + b) _ (List.getElem?_eq_getElem hlen)
   rw [show (Value.int .i64 p.arg) = .int .i64 (k : Int) by rw [e1], show (Value.int .i64 p.lo) = .int .i64 (lo : Int) by rw [e3]]
   refine (put_arg lb ob 0 k os.length oc o.g o.x.bits.toNat o.x.bits.toNat lo b p.lit p.hi (q : Int) _ hk (by omega) (by omega) c4 (by rw [Nat.zero_add]; exact c7) cg (hfr _)).mono ?_
   rintro e w' ⟨rfl, m, rfl⟩
   have kk : Fr wr ((wr.alloc (.cells #[.string p.lit, .int .i64 (k : Int), .int .i64 p.hi, .int .i64 (lo : Int)] 148)).drewN m) := Fr.drewN (Fr.alloc (Fr.refl _) _) m
   have hg := (h.old o (List.mem_of_getElem? ho)).1
   exact ⟨rfl, Below.setCell (Below.mono (B := wr.heap.size) kk (by omega)) (by simp only; omega) _, (h.fr kk).arg ho, fun b' h1 _ h3 => (Below.heap_setCell _ _ _ b' (fun e => h3 o (List.mem_of_getElem? ho) e.symm)).trans (kk.block b' h1)⟩
theorem Fr.below {a b c : World} {lb : Nat} (h : Fr a b) (k : Below lb b c) (hl : a.heap.size ≤ lb) : Fr a c := Below.trans h (Below.mono k hl)
structure LayR (D : Ds) (W3 : World) (n : Nat) (os : List Od) (O : Option Addr) (oc : Nat) (L : Ly) (wr : World) : Prop where
 fr : Fr W3 wr
 lay : LayAt (n + 3) (n + 4) wr O oc os L
 ok : LyOk D L
theorem LayR.to {D : Ds} {W3 : World} {n : Nat} {os : List Od} {O : Option Addr} {oc : Nat} {L L' : Ly} {wr w' : World} (h : LayR D W3 n os O oc L wr) (hz : W3.heap.size = n + 3) (k : Below (n + 3) wr w') (hl : LayAt (n + 3) (n + 4) w' O oc os L') (ho : LyOk D L') : LayR D W3 n os O oc L' w' :=
 ⟨h.fr.below k (by omega), hl, ho⟩
theorem LayR.frame {D : Ds} {W3 : World} {n : Nat} {os : List Od} {O : Option Addr} {oc : Nat} {L : Ly} {wr w' : World} (h : LayR D W3 n os O oc L wr) (k : Fr wr w') : LayR D W3 n os O oc L w' :=
 ⟨h.fr.call k, h.lay.fr k, h.ok⟩
def RelLay1 (D : Ds) (args : List Int) (w0 W3 : World) (n : Nat) (i : Value) (wr : World) : Prop := ∃ (os : List Od) (O : Option Addr) (oc : Nat), os.length ≤ args.length ∧ i = .int .i64 (os.length : Int) ∧ Fr W3 wr ∧
 OpsAt (n + 3) (n + 4) wr O oc os ∧ n + 4 ≤ wr.heap.size ∧ ∀ i o, os[i]? = some o → OdX D args w0 i o
def RelLay2 (D : Ds) (args : List Int) (pcs : List Pc) (bits : Nat) (T : Ly) (W3 : World) (n : Nat) (os : List Od) (O : Option Addr) (oc : Nat) (i nv : Value) (wr : World) : Prop := ∃ (j m : Nat) (L : Ly), j ≤ pcs.length ∧ i = .int .i64 (j : Int) ∧ nv = .int .i64 (m : Int) ∧
 LayR D W3 n os O oc L wr ∧ layL D.order bits D args (pcs.drop j) m L = T ∧ m + sumN D args (pcs.drop j) = bits
def RelLay3 (D : Ds) (args : List Int) (pcs : List Pc) (bits : Nat) (T : Ly) (W3 : World) (n : Nat) (os : List Od) (O : Option Addr) (oc : Nat) (j N : Nat) (p : Pc) (pb : Nat) (pv : List Value) (bv nv : Value) (wr : World) : Prop := ∃ (c m : Nat) (L : Ly), bv = .int .i64 ((c : Int) - 1) ∧ nv = .int .i64 (m : Int) ∧ c ≤ N ∧
 LayR D W3 n os O oc L wr ∧ layL D.order bits D args (pcs.drop (j + 1)) (m + c) (layP D.order bits p c m L) = T ∧ m + c + sumN D args (pcs.drop (j + 1)) = bits ∧ BlkAt wr pb pv
theorem lay0_start {D : Ds} {args : List Int} {w0 : World} {os : List Od} (hX : ∀ i o, os[i]? = some o → OdX D args w0 i o) (hl : os.length = args.length) : (lay0 D args).ops.length = os.length ∧ ∀ (i : Nat) (o : Od), os[i]? = some o → (lay0 D args).ops[i]? = some (o.x, List.replicate o.x.bits.toNat 0) := by
 refine ⟨by simp [lay0, hl], fun i o ho => ?_⟩
 obtain ⟨⟨c, h1, h2, _⟩, _, _⟩ := hX i o ho
 simp [lay0, h1, op0, h2]
def layF (D : Ds) (f : Fm) : Ly := layD D f.args f.pcs
def clashAt (D : Ds) (n : Nat) : Bool := match D.fms[n]? with
 | none => false
 | some f => !((D.fms.take n).all fun g => apB (layF D g) (layF D f))
def clashN (D : Ds) : Option Nat := (List.range D.fms.length).find? (clashAt D)
def clV (D : Ds) : Value := match clashN D with
 | none => .tuple #[.int .i64 0, .bool false]
 | some n => .tuple #[.int .i64 (n : Int), .bool true]
theorem clV_no {D : Ds} (h : ∀ m, m < D.fms.length → clashAt D m = false) : clV D = .tuple #[.int .i64 0, .bool false] := by
 have : clashN D = none := List.find?_eq_none.2 fun m hm => by rw [h m (by simpa using hm)]; simp
 unfold clV; rw [this]
theorem find_range {P : Nat → Bool} : ∀ (n j s : Nat), j < n → P (s + j) = true → (∀ m, m < j → P (s + m) = false) → (List.range' s n).find? P = some (s + j)
 | 0, j, s, h, _, _ => by omega
 | n + 1, 0, s, _, hp, _ => by rw [List.range'_succ, List.find?_cons, show P s = true by simpa using hp]; rfl
 | n + 1, j + 1, s, h, hp, hm => by
   rw [List.range'_succ, List.find?_cons, show P s = false by simpa using hm 0 (by omega)]
   have := find_range n j (s + 1) (by omega) (by rw [← hp]; congr 1; omega) (fun m hmj => by have := hm (m + 1) (by omega); rw [← this]; congr 1; omega)
   simp only [this]; congr 1; omega
theorem clV_at {D : Ds} {j : Nat} (hj : j < D.fms.length) (h : ∀ m, m < j → clashAt D m = false) (hc : clashAt D j = true) : clV D = .tuple #[.int .i64 (j : Int), .bool true] := by
 have : clashN D = some j := by
   unfold clashN
   rw [List.range_eq_range']
   have := find_range (P := clashAt D) D.fms.length j 0 hj (by simpa using hc) (fun m hm => by simpa using h m hm)
   simpa using this
 unfold clV; rw [this]
structure Lk where
 (L : Ly)
 (O : Option Addr)
 (oc : Nat)
def lkC (x : Lk) : List Value := (lyC x.L x.O x.oc).toList
def flatL (ls : List Lk) : List Value := ls.flatMap lkC
theorem flatL_snoc (ls : List Lk) (x : Lk) : flatL (ls ++ [x]) = flatL ls ++ lkC x := by simp [flatL]
theorem flatL_get : ∀ (ls : List Lk) (i : Nat) (o : Lk) (k : Nat) (v : Value), ls[i]? = some o → (lkC o)[k]? = some v → (flatL ls)[i * 5 + k]? = some v
 | [], i, o, k, v, h, _ => by simp at h
 | a :: r, 0, o, k, v, h, hk => by
   obtain rfl : a = o := by simpa using h
   have : k < (lkC a).length := (List.getElem?_eq_some_iff.1 hk).1
   simp only [flatL, List.flatMap_cons, Nat.zero_mul, Nat.zero_add]
   rw [List.getElem?_append_left this]; exact hk
 | a :: r, i + 1, o, k, v, h, hk => by
   have hl : (lkC a).length = 5 := rfl
   simp only [flatL, List.flatMap_cons]
   rw [List.getElem?_append_right (by rw [hl]; omega), hl, show (i + 1) * 5 + k - 5 = i * 5 + k by omega]
   exact flatL_get r i o k v (by simpa using h) hk
def Stab (wr : World) (row : Option Nat) (X : World → Prop) : Prop := ∀ w', wr.grownBy w' row → X w'
theorem grown_of_fr {w w' : World} (k : Fr w w') (row : Option Nat) : w.grownBy w' row := ⟨k.os, k.tape, k.output, k.size, fun i hi _ => k.block i hi⟩
theorem grown_trans {a b c : World} {row row' : Option Nat} (h : a.grownBy b row) (k : b.grownBy c row') (hr : ∀ i, i < a.heap.size → some i ≠ row → some i ≠ row') : a.grownBy c row :=
 ⟨k.os.trans h.os, k.tape.trans h.tape, k.output.trans h.output, Nat.le_trans h.size k.size, fun i hi hn => (k.block i (Nat.lt_of_lt_of_le hi h.size) (hr i hi hn)).trans (h.block i hi hn)⟩
theorem Stab.fr {wr w' : World} {row : Option Nat} {X : World → Prop} (h : Stab wr row X) (k : Fr wr w') : Stab w' row X := fun w'' g => h w'' (grown_trans (grown_of_fr k row) g fun _ _ h => h)
theorem Stab.grown {wr w' : World} {row row' : Option Nat} {X : World → Prop} (h : Stab wr row X) (g : wr.grownBy w' row) (hn : row' = row ∨ row' = some wr.heap.size) : Stab w' row' X := fun w'' g' =>
 h w'' (grown_trans g g' fun i hi h1 => by
   rcases hn with rfl | rfl
   · exact h1
   · intro e; injection e with e; omega)
theorem Stab.now {wr : World} {row : Option Nat} {X : World → Prop} (h : Stab wr row X) : X wr := h wr (World.grownBy.refl wr row)
structure AheadAt (B : Nat) (D : Ds) (wr : World) (A : Option Addr) (cap : Nat) (ls : List Lk) : Prop where
 row : wr.ownsRow B 116 5 (.slice A ls.length cap) ls.length (flatL ls)
 ops : ∀ x ∈ ls, LyOk D x.L ∧ Stab wr (Value.slice A ls.length cap).ownBlock (fun w' => RowOf OpAt 8 w' x.O x.L.ops)
theorem AheadAt.fr {B cap : Nat} {D : Ds} {wr w' : World} {A : Option Addr} {ls : List Lk} (h : AheadAt B D wr A cap ls) (k : Fr wr w') : AheadAt B D w' A cap ls :=
 ⟨ownsRow_fr h.row k, fun x hx => ⟨(h.ops x hx).1, (h.ops x hx).2.fr k⟩⟩
theorem AheadAt.at {B cap : Nat} {D : Ds} {wr : World} {A : Option Addr} {ls : List Lk} (h : AheadAt B D wr A cap ls) {k : Nat} (hk : k < ls.length) :
   ∃ g, A = some ⟨g, 0, none⟩ ∧ B ≤ g ∧ g < wr.heap.size ∧ ∀ m v, (lkC ls[k])[m]? = some v → wr.cell? ⟨g, k * 5 + m, none⟩ = some v := by
 rcases h.row.2 with ⟨_, hz⟩ | ⟨g, cap', cur, e, hb, hg, _, _, hs, ht⟩
 · omega
 · injection e with e e4 e5
   have hc : ∀ m v, (lkC ls[k])[m]? = some v → wr.cell? ⟨g, k * 5 + m, none⟩ = some v := fun m v hv => by
     have h1 := flatL_get ls k ls[k] m v (List.getElem?_eq_getElem hk) hv
     rw [← ht] at h1
     have h2 : k * 5 + m < ls.length * 5 := by
       rcases Nat.lt_or_ge (k * 5 + m) (ls.length * 5) with h3 | h3
       · exact h3
       · rw [List.getElem?_eq_none (by rw [List.length_take]; omega)] at h1; cases h1
     rw [List.getElem?_take_of_lt h2] at h1
     simp [World.cell?, hg]
     simpa using h1
   exact ⟨g, e, hb, lt_of_cell (hc 0 _ rfl), hc⟩
theorem AheadAt.next {B cap cap' g : Nat} {D : Ds} {wr w' : World} {A : Option Addr} {ls : List Lk} {x : Lk} (h : AheadAt B D wr A cap ls) (hg : GrewK wr B 116 5 (.slice A ls.length cap) (ls.length + 1) (flatL ls ++ lkC x) (.slice (some ⟨g, 0, none⟩) (ls.length + 1) cap') w')
   (hx : LyOk D x.L) (hs : Stab wr (Value.slice A ls.length cap).ownBlock (fun w' => RowOf OpAt 8 w' x.O x.L.ops)) : AheadAt B D w' (some ⟨g, 0, none⟩) cap' (ls ++ [x]) := by
 have hl : (ls ++ [x]).length = ls.length + 1 := by simp
 refine ⟨by rw [hl, flatL_snoc]; exact hg.1, fun y hy => ?_⟩
 rw [hl]
 rcases List.mem_append.1 hy with hy | hy
 · exact ⟨(h.ops y hy).1, (h.ops y hy).2.grown hg.2.1 hg.2.2⟩
 · obtain rfl : y = x := by simpa using hy
   exact ⟨hx, hs.grown hg.2.1 hg.2.2⟩
theorem stab_of {w0 w1 wr : World} {row : Option Nat} {O : Option Addr} {l : List (Cl × List Int)} (h : ∀ w' : World, (∀ b, (b < w0.heap.size ∨ w1.heap.size ≤ b) → b < wr.heap.size → w'.heap[b]? = wr.heap[b]?) → RowOf OpAt 8 w' O l)
   (hr : ∀ b, row = some b → w0.heap.size ≤ b ∧ b < w1.heap.size) : Stab wr row (fun w' => RowOf OpAt 8 w' O l) := fun w' g =>
 h w' fun b hb hlt => g.block b hlt fun e => by have := hr b e.symm; omega
theorem clash_round {D : Ds} {j : Nat} (hj : j < D.fms.length) {ls : List Lk} (hl : ls.map (·.L) = (D.fms.take j).map (layF D)) : clashAt D j = !(ls.all fun x => apB x.L (layF D D.fms[j])) := by
 unfold clashAt
 rw [List.getElem?_eq_getElem hj]
 dsimp only
 have : (D.fms.take j).all (fun g => apB (layF D g) (layF D D.fms[j])) = ((D.fms.take j).map (layF D)).all (fun g => apB g (layF D D.fms[j])) := by rw [List.all_map]; rfl
 rw [this, ← hl, List.all_map]; rfl
end Go.Proofs.YtdipnhghdajplaaGreatDoor
