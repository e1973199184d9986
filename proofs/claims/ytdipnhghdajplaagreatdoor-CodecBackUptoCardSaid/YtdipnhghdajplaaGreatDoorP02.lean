/- The reckoner's operations that make new blocks. -/
import Derived.Test.YtdipnhghdajplaaGreatDoorP01
import Derived.Laws.IdiomStrings
namespace Go.Proofs.YtdipnhghdajplaaGreatDoor
open Go.RowKit
set_option linter.unusedSimpArgs false
set_option linter.unusedVariables false
def Hp.add (H : Hp) (tgt : Option Nat) (e : Ent) : Option (Nat × Hp) :=
 match tgt with
 | none => some (H.n, H.push e)
 | some k => if k < H.n then (match H.ent k with
   | .fresh => some (k, H.put k e)
   | _ => none) else none
theorem Hp.add_ok {H H' : Hp} {tgt : Option Nat} {e : Ent} {k : Nat} (hl : H.l.length = H.n) (h : H.add tgt e = some (k, H')) :
   H'.l.length = H'.n ∧ (∀ j, H'.ent j = if j = k then e else H.ent j) ∧ H.ent k = .fresh := by
 unfold Hp.add at h
 split at h
 · injection h with h; injection h with h1 h2; subst h1 h2
   refine ⟨by simp [Hp.push, hl], fun j => Hp.ent_push, ?_⟩
   unfold Hp.ent; rw [if_neg (by omega)]
 · split at h
   · rename_i k' hk
     split at h
     · rename_i he
       injection h with h; injection h with h1 h2; subst h1 h2
       exact ⟨by simp [Hp.put, hl], fun j => Hp.ent_put hl hk, he⟩
     · cases h
   · cases h
def updP (p : Nat → Pla) (k : Nat) (q : Pla) : Nat → Pla := fun j => if j = k then q else p j
section
variable {P : Program} {p p' : Nat → Pla} {H H' : Hp} {w w' : World} {T : List Value} {a : Act} {v : Value} {L : Lim} {tgt : Option Nat} {k : Nat}
theorem add_stp (L : Lim) (h : Rel p H w) {n : Nat} {cs : List Value} {ty : TypeId} {esz : Nat} (ha : H.add tgt (.live ⟨cs, ty, esz, true⟩) = some (k, H')) (ys : Array Value) (hv : VL H.al p cs ys.toList) (hn : 0 < esz → n ≤ maxLen ∧ ys.size = n * esz) :
   Stp L p H w (updP p k ⟨w.heap.size, 0, esz, ys.size⟩) H' (w.alloc (.cells ys ty)) ∧ H'.al k := by
 obtain ⟨h1, h2, h3⟩ := Hp.add_ok h.len ha
 have hne : ∀ b, H.al b → b ≠ k := fun b hb e => hb (e ▸ h3)
 have hmono : ∀ b, H.al b → H'.al b ∧ updP p k ⟨w.heap.size, 0, esz, ys.size⟩ b = p b := fun b hb => by
   have := hne b hb
   refine ⟨?_, by unfold updP; rw [if_neg this]⟩
   unfold Hp.al; rw [h2, if_neg this]; exact hb
 have hge : ∀ j c, j ≠ k → H'.get j = some c → H.get j = some c := fun j c hj hc => by
   have := Hp.ent_of_get hc; rw [h2, if_neg hj] at this; exact Hp.get_of_ent this
 have hk : updP p k ⟨w.heap.size, 0, esz, ys.size⟩ k = ⟨w.heap.size, 0, esz, ys.size⟩ := by unfold updP; rw [if_pos rfl]
 have hgk : H'.get k = some ⟨cs, ty, esz, true⟩ := Hp.get_of_ent (by rw [h2, if_pos rfl])
 refine ⟨⟨hmono, ?_, rfl, rfl, rfl, by simp, fun b hb _ => heap_alloc_old _ _ hb, ?_⟩, ?_⟩
 · refine h.upd h1 k ⟨cs, ty, esz, true⟩ hgk ?_ hmono (by simp) ?_ (by rw [hk]) ?_
   · intro j b hj hb
     have := hge j b hj hb
     exact ⟨this, by unfold updP; rw [if_neg hj], heap_alloc_old _ _ (h.lt j b this)⟩
   · rw [hk]
     refine ⟨ys, heap_alloc_new _ _, rfl, rfl, fun h0 => ⟨n, hn h0⟩, fun i u hu => ?_⟩
     obtain ⟨u', e1, e2⟩ := hv.2 i u hu
     exact ⟨u', by simpa using e1, e2.mono hmono⟩
   · intro j b hj hb e
     rw [hk] at e
     have := h.lt j b (hge j b hj hb)
     unfold updP at e; rw [if_neg hj] at e
     simp only at e; omega
 · intro j b hb ho
   by_cases hj : j = k
   · subst hj; left; rw [hk]; exact Nat.le_refl _
   · right; exact ⟨j, .inl rfl, ⟨b, hge j b hj hb, ho⟩, by unfold updP; rw [if_neg hj]⟩
 · unfold Hp.al; rw [h2, if_pos rfl]; simp
def boxA (H : Hp) (tgt : Option Nat) (ty : TypeId) (cs : List Value) : Option (Value × Hp) :=
 match H.add tgt (.live ⟨cs, ty, 0, true⟩) with
 | some (k, H') => some (.pointer (some ⟨k, 0, none⟩), H')
 | none => none
theorem boxA_ok (L : Lim) (h : Rel p H w) {cs : List Value} {ty : TypeId} (ys : Array Value) (hv : VL H.al p cs ys.toList) (he : boxA H tgt ty cs = some (v, H')) :
   ∃ p', Stp L p H w p' H' (w.alloc (.cells ys ty)) ∧ VR H'.al p' v (.pointer (some ⟨w.heap.size, 0, none⟩)) := by
 unfold boxA at he
 split at he
 · rename_i k H1 ha
   injection he with he; injection he with e1 e2; subst e1 e2
   obtain ⟨h1, h2⟩ := add_stp (n := 0) L h ha ys hv (fun h0 => by omega)
   refine ⟨_, h1, ?_⟩
   have := VR.ptr (A := H1.al) (p := updP p k ⟨w.heap.size, 0, 0, ys.size⟩) k 0 h2
   have hk : updP p k ⟨w.heap.size, 0, 0, ys.size⟩ k = ⟨w.heap.size, 0, 0, ys.size⟩ := by unfold updP; rw [if_pos rfl]
   rw [hk] at this
   exact this
 · cases he
def rowA (H : Hp) (tgt : Option Nat) (ty : TypeId) (esz n : Nat) (cs : List Value) : Option (Value × Hp) :=
 if cs.length = n * esz ∧ n ≤ maxLen then
   match H.add tgt (.live ⟨cs, ty, esz, true⟩) with
   | some (k, H') => some (.slice (some ⟨k, 0, none⟩) n n, H')
   | none => none
 else none
theorem rowA_ok (L : Lim) (h : Rel p H w) {cs : List Value} {ty : TypeId} {esz n : Nat} (ys : Array Value) (hv : VL H.al p cs ys.toList) (he : rowA H tgt ty esz n cs = some (v, H')) :
   ∃ p', Stp L p H w p' H' (w.alloc (.cells ys ty)) ∧ VR H'.al p' v (.slice (some ⟨w.heap.size, 0, none⟩) n n) := by
 unfold rowA at he
 split at he
 · rename_i hn
   split at he
   · rename_i k H1 ha
     injection he with he; injection he with e1 e2; subst e1 e2
     have hy : ys.size = n * esz := by have := hv.1; simp at this; omega
     obtain ⟨h1, h2⟩ := add_stp (n := n) L h ha ys hv (fun _ => ⟨hn.2, hy⟩)
     refine ⟨_, h1, ?_⟩
     have hk : updP p k ⟨w.heap.size, 0, esz, ys.size⟩ k = ⟨w.heap.size, 0, esz, ys.size⟩ := by unfold updP; rw [if_pos rfl]
     have := VR.slc (A := H1.al) (p := updP p k ⟨w.heap.size, 0, esz, ys.size⟩) k 0 n n n h2 (Nat.le_refl _) (by rw [hk]; simp only; omega)
     rw [hk] at this
     exact this
   · cases he
 · cases he
def byteA : Value → Option UInt8
 | .int .u8 (.ofNat n) => if n < 256 then some (UInt8.ofNat n) else none
 | _ => none
def bytesA : List Value → Option (List UInt8)
 | [] => some []
 | v :: r => match byteA v, bytesA r with
   | some b, some l => some (b :: l)
   | _, _ => none
theorem byteA_ok {v : Value} {b : UInt8} (h : byteA v = some b) : v = .int .u8 (b.toNat : Int) := by
 unfold byteA at h
 split at h
 · rename_i n
   split at h
   · rename_i hn
     injection h with h; subst h
     have : (UInt8.ofNat n).toNat = n := by simp [Nat.mod_eq_of_lt hn]
     rw [this]; rfl
   · cases h
 · cases h
theorem bytesA_ok : ∀ {l : List Value} {bs : List UInt8}, bytesA l = some bs → l.length = bs.length ∧ ∀ (j : Nat) (hj : j < bs.length), l[j]? = some (.int .u8 (bs[j].toNat : Int))
 | [], bs, h => by simp [bytesA] at h; subst h; exact ⟨rfl, fun j hj => absurd hj (by simp)⟩
 | v :: r, bs, h => by
   simp only [bytesA] at h
   split at h
   · rename_i b l h1 h2
     injection h with h; subst h
     obtain ⟨k1, k2⟩ := bytesA_ok h2
     refine ⟨by simp [k1], fun j hj => ?_⟩
     cases j with
     | zero => simp [byteA_ok h1]
     | succ j => simpa using k2 j (by simpa using hj)
   · cases h
def textA (P : Program) (H : Hp) (e : Operand → Option Value) (s d : TypeId) (x : Operand) : Option (Value × Hp) :=
 match e x, P.underlying s, P.underlying d with
 | some (.slice (some ⟨b, o, none⟩) l c), some (.slice el), some .string => match P.underlying el, H.get b with
   | some (.int .u8), some blk => match bytesA ((blk.cs.drop o).take l) with
     | some bs => if bs.length = l then some (.string ⟨bs.toArray⟩, H) else none
     | none => none
   | _, _ => none
 | _, _, _ => none
theorem textA_ok (h : Rel p H w) (hT : TR H.al p T a.tmps) {s d : TypeId} {x : Operand} (he : textA P H (ev T) s d x = some (v, H')) :
   H' = H ∧ ∃ v', (convert s d (a.eval x)).run P w = .ok v' w ∧ VR H.al p v v' := by
 unfold textA at he
 split at he
 · rename_i b o l c el hx hs hd
   split at he
   · rename_i blk hel hb
     split at he
     · rename_i bs hbs
       split at he
       · rename_i hl
         injection he with he; injection he with e1 e2; subst e1 e2
         obtain ⟨k1, k2⟩ := bytesA_ok hbs
         refine ⟨rfl, _, ?_, .str _⟩
         have hv := ev_ok hT hx
         generalize a.eval x = u at hv
         cases hv with
         | slc _ _ _ _ c' h1 h2 h3 =>
           subst hl
           refine run_convert_bytes_back w s d el _ c' bs hs hel hd fun j hj => ?_
           have g := k2 j hj
           rw [List.getElem?_take_of_lt hj, List.getElem?_drop] at g
           obtain ⟨v', g1, g2⟩ := h.cell b blk hb _ _ g
           rw [g2.sc_eq rfl] at g1
           rw [addr_add, Nat.add_assoc]; exact g1
         | szero _ _ b' o' h1 =>
           have : bs = [] := List.length_eq_zero_iff.1 hl
           subst this
           exact run_convert_bytes_back w s d el _ _ [] hs hel hd fun j hj => absurd hj (by simp)
         | sfor _ _ a' c' h1 h2 =>
           have : bs = [] := List.length_eq_zero_iff.1 hl
           subst this
           cases a' with
           | some a' => exact run_convert_bytes_back w s d el a' c' [] hs hel hd fun j hj => absurd hj (by simp)
           | none => rw [run_convert_bytes_string w s d el none 0 c' hs hel hd]; rfl
       · cases he
     · cases he
   · cases he
 · cases he
def newA (P : Program) (H : Hp) (e : Operand → Option Value) (tgt : Option Nat) (o : Oper) : Option (Value × Hp) :=
 match o.op with
 | .alloc elem => match runP P (zeroValue elem) with
   | some z => if z.cells.toList.all sc then boxA H tgt elem z.cells.toList else none
   | none => none
 | .box elem x => match e x with
   | some v => boxA H tgt elem v.cells.toList
   | none => none
 | .buildSlice t len parts => match P.underlying t, evs e parts.toList with
   | some (.slice elem), some l => match szA P elem, runP P (zeroValue elem) with
     | some n, some z =>
       if len * n ≤ 2 ^ 24 ∧ ((Array.range (len * n)).map (z.cells[· % z.cells.size]!)).toList.all sc then
         (match Instr.fill (fun i => some (i * n, n)) ((Array.range (len * n)).map (z.cells[· % z.cells.size]!)) l with
         | some cs => rowA H tgt elem n len cs.toList
         | none => none) else none
     | _, _ => none
   | _, _ => none
 | .makeSlice t l c => match e l, e c, P.underlying t with
   | some (.int _ l), some (.int _ c), some (.slice elem) => match P.info? elem, runP P (zeroValue elem) with
     | some i, some z =>
       if 0 ≤ l ∧ l = c ∧ c ≤ 1000000 ∧ i.bytes ≤ 1000000 ∧ ((Array.range (c.toNat * i.size)).map (z.cells[· % z.cells.size]!)).toList.all sc then
         rowA H tgt elem i.size c.toNat ((Array.range (c.toNat * i.size)).map (z.cells[· % z.cells.size]!)).toList else none
     | _, _ => none
   | _, _, _ => none
 | .convert s d x => textA P H e s d x
 | _ => none
theorem newA_ok (L : Lim) (h : Rel p H w) (hT : TR H.al p T a.tmps) {o : Oper} (he : newA P H (ev T) tgt o = some (v, H')) :
   ∃ v' p' w', (execOp a.eval o).run P w = .ok (.value v') w' ∧ Stp L p H w p' H' w' ∧ VR H'.al p' v v' := by
 unfold newA at he
 unfold execOp
 split at he
 · rename_i elem ho
   simp only [ho]
   split at he
   · rename_i z hz
     split at he
     · rename_i hs
       obtain ⟨p', h1, h2⟩ := boxA_ok L h z.cells (VL.of_sc hs) he
       refine ⟨_, p', _, ?_, h1, h2⟩
       simp [Instr.alloc, runP_ok hz, newVar, newRow]
     · cases he
   · cases he
 · rename_i elem x ho
   simp only [ho]
   split at he
   · rename_i u hu
     obtain ⟨p', h1, h2⟩ := boxA_ok L h (a.eval x).cells (ev_ok hT hu).cells he
     refine ⟨_, p', _, ?_, h1, h2⟩
     simp [Instr.box, newVar, newRow]
   · cases he
 · rename_i t len parts ho
   simp only [ho]
   split at he
   · rename_i elem l hu hl
     split at he
     · rename_i n z hn hz
       split at he
       · rename_i hc
         split at he
         · rename_i cs hf
           obtain ⟨cs', f1, f2⟩ := fill_ok (evs_ok hT hl) (VL.of_sc (A := H.al) (p := p) hc.2) hf
           obtain ⟨p', h1, h2⟩ := rowA_ok L h cs' f2 he
           have e : (parts.map fun x => (x.1, a.eval x.2)).toList = parts.toList.map fun x => (x.1, a.eval x.2) := by simp
           refine ⟨_, p', _, ?_, h1, h2⟩
           have hgt : ¬ len * n > 2 ^ 24 := by omega
           have hrun : (Instr.buildSlice t len (parts.map fun x => (x.1, a.eval x.2))).run P w = .ok (.slice (some ⟨w.heap.size, 0, none⟩) len len) (w.alloc (.cells cs' elem)) := by
             unfold Instr.buildSlice
             by_cases h0 : len * n = 0
             · have hr0 : ∀ f : Nat → Value, (Array.range (len * n)).map f = #[] := fun f => by rw [h0]; simp
               rw [hr0] at f1
               simp only [Sem.run_bind, run_underlying hu w, Result.andThen_ok, run_sizeOf hn, if_neg hgt, if_pos h0, Sem.run_pure, hr0, e, f1, newRow, run_newObj]
               rfl
             · simp only [Sem.run_bind, run_underlying hu w, Result.andThen_ok, run_sizeOf hn, if_neg hgt, if_neg h0, Sem.run_pure, runP_ok hz w, e, f1, newRow, run_newObj]
               rfl
           rw [Sem.run_bind, hrun]; rfl
         · cases he
       · cases he
     · cases he
   · cases he
 · rename_i t x y ho
   simp only [ho]
   split at he
   · rename_i k1 l k2 c elem hx hy hu
     split at he
     · rename_i i z hi hz
       split at he
       · rename_i hc
         obtain ⟨c1, rfl, c3, c4, c5⟩ := hc
         obtain ⟨p', h1, h2⟩ := rowA_ok L h _ (VL.of_sc (A := H.al) (p := p) c5) he
         refine ⟨_, p', _, ?_, h1, h2⟩
         have hw : IntKind.i64.wrap l = l := by unfold IntKind.wrap; simp [IntKind.bits, IntKind.signed]; omega
         have hb : (i.bytes : Int) * l ≤ 1000000 * 1000000 := Int.mul_le_mul (by omega) c3 c1 (by decide)
         have hlt1 : ¬ l < 0 := by omega
         have hbb : ¬ ((i.bytes : Int) * l > 2 ^ 48) := by omega
         have hsz : szA P elem = some i.size := by simp [szA, hi]
         have hrun : (Instr.makeSlice t (a.eval x) (a.eval y)).run P w = .ok (.slice (some ⟨w.heap.size, 0, none⟩) l.toNat l.toNat) (w.alloc (.cells ((Array.range (l.toNat * i.size)).map (z.cells[· % z.cells.size]!)) elem)) := by
           rw [ev_sc hT hx rfl, ev_sc hT hy rfl]
           unfold Instr.makeSlice
           simp only [Sem.run_bind, run_underlying hu w, Result.andThen_ok, asInt, asIntOf, Sem.run_pure, typeInfo, run_program, hi, hw]
           simp only [hlt1, hbb, decide_false, Bool.or_false, Bool.false_eq_true, if_false, Int.lt_irrefl, gt_iff_lt, Sem.run_bind, run_askRoom, Result.andThen_ok, run_sizeOf hsz, Sem.run_pure]
           by_cases h0 : l.toNat * i.size = 0
           · have hr0 : ∀ f : Nat → Value, (Array.range (l.toNat * i.size)).map f = #[] := fun f => by rw [h0]; simp
             simp only [if_pos h0, hr0, Sem.run_bind, Sem.run_pure, Result.andThen_ok, newRow, run_newObj]
             rfl
           · simp only [if_neg h0, Sem.run_bind, Sem.run_pure, runP_ok hz w, Result.andThen_ok, newRow, run_newObj]
             rfl
         rw [Sem.run_bind, hrun]; rfl
       · cases he
     · cases he
   · cases he
 · rename_i s d x ho
   simp only [ho]
   obtain ⟨e1, v', h1, h2⟩ := textA_ok h hT he
   subst e1
   exact ⟨v', p, w, by simp [h1], Stp.refl h, h2⟩
 · cases he
end
end Go.Proofs.YtdipnhghdajplaaGreatDoor
namespace Go.Proofs.YtdipnhghdajplaaGreatDoor
open Go.RowKit
set_option linter.unusedSimpArgs false
set_option linter.unusedVariables false
section
variable {P : Program} {p p' : Nat → Pla} {H H' H1 : Hp} {w w' : World} {T : List Value} {a : Act} {v v' : Value} {L : Lim} {tgt : Option Nat} {k n size : Nat} {row : Option Nat} {e : TypeId} {cs ys : List Value} {D : Nat → Prop}
theorem append_fin (h : Rel p H w) (hlen : H1.l.length = H1.n) (hD : ∀ j, D j → ∃ blk, H.get j = some blk ∧ blk.own = true ∧ L.ok j = true ∧ row = some (p j).blk)
   (hent : ∀ j, ¬ D j → H1.ent j = H.ent j) (hent2 : ∀ j, D j → H1.ent j = .dead) (hrow : row = none ∨ ∃ j, D j)
   (ha : H1.add tgt (.live ⟨cs, e, size, true⟩) = some (k, H')) (hown : w'.ownsRow 0 e size v' n ys) (hn : 0 < n) (hv : VL H.al p cs ys) (hgrow : w.grownBy w' row)
   (hv' : v'.ownBlock = row ∨ v'.ownBlock = some w.heap.size) : ∃ p', Stp L p H w p' H' w' ∧ VR H'.al p' (.slice (some ⟨k, 0, none⟩) n n) v' := by
 obtain ⟨h1, h2, h3⟩ := Hp.add_ok hlen ha
 rcases hown.2 with ⟨_, h0⟩ | ⟨g, cap, cur, rfl, _, hg, hnc, hcm, hcs, htk⟩
 · omega
 have hob : (Value.slice (some ⟨g, 0, none⟩) n cap).ownBlock = some g := rfl
 rw [hob] at hv'
 have hkD : ¬ D k := fun hd => by rw [hent2 k hd] at h3; cases h3
 have hkf : H.ent k = .fresh := by rw [← hent k hkD]; exact h3
 have hne : ∀ b, H.al b → b ≠ k := fun b hb e => hb (e ▸ hkf)
 have hmono : ∀ b, H.al b → H'.al b ∧ updP p k ⟨g, 0, size, cap * size⟩ b = p b := fun b hb => by
   have := hne b hb
   refine ⟨?_, by unfold updP; rw [if_neg this]⟩
   unfold Hp.al; rw [h2, if_neg this]
   by_cases hd : D b
   · rw [hent2 b hd]; simp
   · rw [hent b hd]; exact hb
 have hge : ∀ j c, j ≠ k → H'.get j = some c → H.get j = some c ∧ ¬ D j := fun j c hj hc => by
   have := Hp.ent_of_get hc; rw [h2, if_neg hj] at this
   have hd : ¬ D j := fun hd => by rw [hent2 j hd] at this; cases this
   rw [hent j hd] at this
   exact ⟨Hp.get_of_ent this, hd⟩
 have hfar : ∀ j c, j ≠ k → H'.get j = some c → some (p j).blk ≠ row := fun j c hj hc hr => by
   obtain ⟨h4, h5⟩ := hge j c hj hc
   rcases hrow with h6 | ⟨i, h6⟩
   · rw [h6] at hr; cases hr
   · obtain ⟨blk, g1, g2, g3, g4⟩ := hD i h6
     rw [g4] at hr
     injection hr with hr
     have := h.apart i j blk c g1 h4 g2 hr.symm
     exact h5 (this ▸ h6)
 have hk : updP p k ⟨g, 0, size, cap * size⟩ k = ⟨g, 0, size, cap * size⟩ := by unfold updP; rw [if_pos rfl]
 have hgk : H'.get k = some ⟨cs, e, size, true⟩ := Hp.get_of_ent (by rw [h2, if_pos rfl])
 have halk : H'.al k := Hp.al_of_get hgk
 refine ⟨updP p k ⟨g, 0, size, cap * size⟩, ⟨hmono, ?_, hgrow.os, hgrow.tape, hgrow.output, hgrow.size, fun b hb hw => hgrow.block b hb fun hr => ?_, ?_⟩, ?_⟩
 · refine h.upd h1 k ⟨cs, e, size, true⟩ hgk ?_ hmono hgrow.size ?_ (by rw [hk]) ?_
   · intro j b hj hb
     have h4 := (hge j b hj hb).1
     exact ⟨h4, by unfold updP; rw [if_neg hj], hgrow.block _ (h.lt j b h4) (hfar j b hj hb)⟩
   · rw [hk]
     refine ⟨cur, hg, rfl, hcs, fun _ => ⟨cap, hcm, rfl⟩, fun i u hu => ?_⟩
     obtain ⟨u', e1, e2⟩ := hv.2 i u hu
     refine ⟨u', ?_, e2.mono hmono⟩
     rw [← htk, List.getElem?_take] at e1
     split at e1
     · simpa using e1
     · cases e1
   · intro j b hj hb e1
     rw [hk] at e1
     unfold updP at e1; rw [if_neg hj] at e1
     simp only at e1
     rcases hv' with h6 | h6
     · exact hfar j b hj hb (by rw [e1]; exact h6)
     · injection h6 with h6
       have := h.lt j b (hge j b hj hb).1
       omega
 · rcases hrow with h6 | ⟨i, h6⟩
   · rw [h6] at hr; cases hr
   · obtain ⟨blk, g1, g2, g3, g4⟩ := hD i h6
     rw [g4] at hr; injection hr with hr
     exact hw i ⟨blk, g1, g2, g3⟩ hr.symm
 · intro j b hb ho
   by_cases hj : j = k
   · subst hj
     rw [hk]
     rcases hv' with h6 | h6
     · right
       rcases hrow with h7 | ⟨i, h7⟩
       · rw [h7] at h6; cases h6
       · obtain ⟨blk, g1, g2, g3, g4⟩ := hD i h7
         rw [g4] at h6; injection h6 with h6
         exact ⟨i, .inr g3, ⟨blk, g1, g2⟩, h6.symm⟩
     · left; injection h6 with h6; exact Nat.le_of_eq h6.symm
   · right; exact ⟨j, .inl rfl, ⟨b, (hge j b hj hb).1, ho⟩, by unfold updP; rw [if_neg hj]⟩
 · have := VR.slc (A := H'.al) (p := updP p k ⟨g, 0, size, cap * size⟩) k 0 n n cap halk hnc (by rw [hk]; simp)
   rw [hk] at this
   exact this
theorem append_zero {t ty : TypeId} {i : TypeInfo} {z : Value} {A B : Addr} {m c : Nat} (ht : P.underlying t = some (.slice e)) (hi : P.info? e = some i) (hz : i.zero = some z) (hm : 0 < m) (hb : m * i.bytes ≤ 140737488355328) :
   (Builtin.append_ #[t, t] ty #[.slice (some A) 0 0, .slice (some B) m c]).run P w = (Builtin.append_ #[t, t] ty #[.slice none 0 0, .slice (some B) m c]).run P w := by
 have hne : ¬ m ≤ 0 := by omega
 have hm0 : ¬ m = 0 := by omega
 have hn : Builtin.nextslicecap m 0 = m := by unfold Builtin.nextslicecap; simp; omega
 have hbb : ¬ (m * i.bytes > 2 ^ 48) := by omega
 unfold Builtin.append_
 simp [run_underlying ht, sizeOf, typeInfo, hi, Builtin.lenOf, hne, hm0, hn, hbb, Builtin.firstCells, loadCells, loadCellsFrom]
def appendA (P : Program) (L : Lim) (H : Hp) (e : Operand → Option Value) (tgt : Option Nat) (ats : Array TypeId) (args : Array Operand) : Option (Value × Hp) :=
 match ats.toList, args.toList with
 | [t, t'], [s, x] => if t' = t then (match e s, e x, P.underlying t with
   | some (.slice sb l c), some (.slice xb m xc), some (.slice e) => match P.info? e with
     | some i => match i.zero with
       | some z =>
         if m = 0 then (if l ≤ c then some (.slice sb l c, H) else none) else
         match xb with
         | some ⟨b2, o2, none⟩ => match H.get b2 with
           | some blk2 =>
             if ((blk2.cs.drop o2).take (m * i.size)).length = m * i.size ∧ ((blk2.cs.drop o2).take (m * i.size)).all (·.oneCell') ∧ 0 < i.size ∧ z.cells.size = i.size ∧ l + m ≤ maxLen ∧ (l + m) * i.bytes ≤ 140737488355328 then
               match sb with
               | none => if l = 0 ∧ c = 0 then (match H.add tgt (.live ⟨(blk2.cs.drop o2).take (m * i.size), e, i.size, true⟩) with
                 | some (k, H') => some (.slice (some ⟨k, 0, none⟩) m m, H')
                 | none => none) else none
               | some ⟨b, 0, none⟩ => match H.get b with
                 | some blk => if blk.own ∧ L.ok b ∧ blk.ty = e ∧ blk.esz = i.size ∧ l ≤ c ∧ l * i.size ≤ blk.cs.length ∧ b < H.n then
                     (match (H.put b .dead).add tgt (.live ⟨blk.cs.take (l * i.size) ++ (blk2.cs.drop o2).take (m * i.size), e, i.size, true⟩) with
                     | some (k, H') => some (.slice (some ⟨k, 0, none⟩) (l + m) (l + m), H')
                     | none => none) else none
                 | none => none
               | _ => none
             else none
           | none => none
         | _ => none
       | none => none
     | none => none
   | _, _, _ => none) else none
 | _, _ => none
theorem append_none {t ty : TypeId} {i : TypeInfo} {z : Value} {A B : Option Addr} {l c c2 : Nat} (ht : P.underlying t = some (.slice e)) (hi : P.info? e = some i) (hz : i.zero = some z) (hl : l ≤ c) :
   (Builtin.append_ #[t, t] ty #[.slice A l c, .slice B 0 c2]).run P w = .ok (.slice A l c) w := by
 unfold Builtin.append_
 cases A <;> cases B <;> simp [run_underlying ht, sizeOf, typeInfo, hi, Builtin.lenOf, hl, Builtin.firstCells, loadCells, loadCellsFrom, storeCells]
theorem appendA_ok (h : Rel p H w) (hT : TR H.al p T a.tmps) {ats : Array TypeId} {args : Array Operand} {ty : TypeId} (he : appendA P L H (ev T) tgt ats args = some (v, H')) :
   ∃ v' p' w', (Builtin.append_ ats ty (args.map a.eval)).run P w = .ok v' w' ∧ Stp L p H w p' H' w' ∧ VR H'.al p' v v' := by
 unfold appendA at he
 split at he
 · rename_i t t' s x hats hargs
   have hats' : ats = #[t, t'] := by rw [← Array.toArray_toList (xs := ats), hats]
   have hargs' : args = #[s, x] := by rw [← Array.toArray_toList (xs := args), hargs]
   subst hats' hargs'
   clear hats hargs
   split at he
   · rename_i htt; subst htt
     split at he
     · rename_i sb l c xb m xc e hs hx hu
       have vs := ev_ok hT hs
       have vx := ev_ok hT hx
       simp only [List.map_toArray, List.map_cons, List.map_nil]
       generalize a.eval s = us at vs
       generalize a.eval x = ux at vx
       split at he
       · rename_i i hi
         split at he
         · rename_i z hz
           split at he
           · rename_i hm; subst hm
             split at he
             · rename_i hlc
               injection he with he; injection he with e1 e2; subst e1 e2
               refine ⟨us, p, w, ?_, Stp.refl h, vs⟩
               cases vs with
               | snil => cases vx <;> exact append_none hu hi hz (by omega)
               | slc b o l c c' hA hc ht => cases vx <;> exact append_none hu hi hz (by omega)
               | sfor b o a' c' hA hf => cases vx <;> exact append_none hu hi hz (by omega)
               | szero b o b' o' hA => cases vx <;> exact append_none hu hi hz (by omega)
             · cases he
           · rename_i hm
             split at he
             · rename_i b2 o2
               split at he
               · rename_i blk2 hg2
                 split at he
                 · rename_i hc
                   obtain ⟨c1, c2, c3, c4, c5, c6⟩ := hc
                   cases vx with
                   | szero => exact absurd rfl hm
                   | sfor => exact absurd rfl hm
                   | slc _ _ _ _ xc' hA2 hcx htx =>
                   obtain ⟨news, n1, n2⟩ := cells_ok (A := H.al) (p := p) (w := w) (g := (p b2).blk) (o := (p b2).off + o2) (cs := (blk2.cs.drop o2).take (m * i.size)) (fun k u hu => by
                     simp only [List.getElem?_take, List.getElem?_drop] at hu
                     split at hu
                     · have := h.cell b2 blk2 hg2 (o2 + k) u hu
                       rwa [← Nat.add_assoc] at this
                     · cases hu)
                   have hnl : news.length = m * i.size := by rw [← n1.1]; exact c1
                   have hn1 := n1.one c2
                   have hn2 : ∀ j u, news[j]? = some u → w.cell? ((⟨(p b2).blk, (p b2).off + o2, none⟩ : Addr).add j) = some u := fun j u hu => by rw [addr_add]; exact n2 j u hu
                   have hnil := run_append_own_at (P := P) w 0 t' ty e i z i.size i.bytes hu hi hz rfl rfl c4 c3 (.slice none 0 0) 0 [] (World.ownsRow_nil w 0 e i.size) ⟨(p b2).blk, (p b2).off + o2, none⟩ m xc' news hnl hn2 hn1 (by omega) (by rw [Nat.zero_add]; exact Nat.le_trans (Nat.mul_le_mul_right _ (Nat.le_add_left _ _)) c6) (Nat.zero_le _)
                   simp only [Nat.zero_add, List.nil_append] at hnil
                   split at he
                   · split at he
                     · rename_i hlc
                       split at he
                       · rename_i k H1 hadd
                         injection he with he; injection he with e1 e2; subst e1 e2
                         obtain ⟨v', w', r1, r2, r3, _, r5⟩ := hnil
                         obtain ⟨p', q1, q2⟩ := append_fin (L := L) (D := fun _ => False) (row := none) h h.len (fun _ hf => hf.elim) (fun _ _ => rfl) (fun _ hf => hf.elim) (.inl rfl) hadd r2 (by omega) n1 r3 r5
                         cases vs with
                         | snil => exact ⟨v', p', w', r1, q1, q2⟩
                       · cases he
                     · cases he
                   · rename_i b
                     split at he
                     · rename_i blk hg
                       split at he
                       · rename_i hcc
                         obtain ⟨d1, d2, d3, d4, d5, d6, d7⟩ := hcc
                         split at he
                         · rename_i k H1 hadd
                           injection he with he; injection he with e1 e2; subst e1 e2
                           obtain ⟨cur, g1, g2, g3, g4⟩ := h.own b blk hg d1
                           have hcap : ∀ c', c' * blk.esz = (p b).tot → 0 < blk.esz → c' ≤ maxLen := fun c' q3 q0 => by
                             obtain ⟨cap, q1, q2⟩ := g4 q0
                             have q4 := Nat.eq_of_mul_eq_mul_right q0 (q3.trans q2)
                             rw [q4]; exact q1
                           clear g4
                           have hput : ∀ j, (H.put b .dead).ent j = if j = b then .dead else H.ent j := fun j => Hp.ent_put h.len d7
                           have hcl : (H.put b .dead).l.length = (H.put b .dead).n := by simp [Hp.put, h.len]
                           have hz0 := h.esz b blk hg
                           obtain ⟨olds, o1, o3⟩ := cells_ok (A := H.al) (p := p) (w := w) (g := (p b).blk) (o := 0) (cs := blk.cs.take (l * i.size)) (fun k u hu => by
                             simp only [List.getElem?_take] at hu
                             split at hu
                             · have := h.cell b blk hg k u hu
                               rwa [g2] at this
                             · cases hu)
                           have hol : olds.length = l * i.size := by rw [← o1.1]; simp; omega
                           have fin : ∀ v' w', w'.ownsRow 0 e i.size v' (l + m) (olds ++ news) → w.grownBy w' (some (p b).blk) → (v'.ownBlock = some (p b).blk ∨ v'.ownBlock = some w.heap.size) → ∃ p', Stp L p H w p' H1 w' ∧ VR H1.al p' (.slice (some ⟨k, 0, none⟩) (l + m) (l + m)) v' := by
                             intro v' w' r2 r3 r5
                             exact append_fin (L := L) (D := fun j => j = b) (row := some (p b).blk) h hcl (fun j hj => by subst hj; exact ⟨blk, hg, d1, d2, rfl⟩) (fun j hj => by rw [hput, if_neg hj]) (fun j hj => by rw [hput, if_pos hj]) (.inr ⟨b, rfl⟩) hadd r2 (by omega) (o1.append n1) r3 r5
                           cases vs with
                           | sfor _ _ a' c' hA hf => exfalso; omega
                           | slc _ _ _ _ c' hA hc ht =>
                             have hmm : c' ≤ maxLen := hcap c' (by rw [g2, hz0] at ht; omega) (by omega)
                             have hcur : cur.size = c' * i.size := by rw [g3, ← ht, g2, hz0, d4]; omega
                             have how : w.ownsRow 0 e i.size (.slice (some ⟨(p b).blk, (p b).off + 0, none⟩) l c') l olds := by
                               refine ⟨hol, .inr ⟨(p b).blk, c', cur, by rw [g2], Nat.zero_le _, by rw [← d3]; exact g1, by omega, hmm, hcur, ?_⟩⟩
                               apply List.ext_getElem?
                               intro j
                               by_cases hj : j < l * i.size
                               · have hjo : j < olds.length := by omega
                                 have := o3 j olds[j] (by simp [hjo])
                                 rw [Nat.zero_add, cell_of_row w _ _ cur _ _ g1] at this
                                 rw [List.getElem?_take, if_pos hj, List.getElem?_eq_getElem hjo]
                                 simpa using this
                               · rw [List.getElem?_take, if_neg hj, List.getElem?_eq_none (by omega)]
                             obtain ⟨v', w', r1, r2, r3, _, r5⟩ := run_append_own_at (P := P) w 0 t' ty e i z i.size i.bytes hu hi hz rfl rfl c4 c3 _ l olds how ⟨(p b2).blk, (p b2).off + o2, none⟩ m xc' news hnl hn2 hn1 c5 c6 (Nat.zero_le _)
                             obtain ⟨p', q1, q2⟩ := fin v' w' r2 r3 r5
                             exact ⟨v', p', w', r1, q1, q2⟩
                           | szero _ _ b' o' hA =>
                             obtain ⟨v', w', r1, r2, r3, _, r5⟩ := hnil
                             have ho : olds = [] := List.eq_nil_of_length_eq_zero (by omega)
                             have hr3 : w.grownBy w' (some (p b).blk) := ⟨r3.os, r3.tape, r3.output, r3.size, fun k hk _ => r3.block k hk (by simp [Value.ownBlock])⟩
                             have hr5 : v'.ownBlock = some w.heap.size := by
                               rcases r5 with h6 | h6
                               · obtain ⟨g, cap, hv, _⟩ := r2.form (by omega)
                                 rw [hv] at h6; cases h6
                               · exact h6
                             obtain ⟨p', q1, q2⟩ := fin v' w' (by rw [ho, Nat.zero_add]; exact r2) hr3 (.inr hr5)
                             refine ⟨v', p', w', ?_, q1, q2⟩
                             rw [append_zero hu hi hz (by omega) (by rw [Nat.zero_add] at c6; exact c6)]
                             exact r1
                         · cases he
                       · cases he
                     · cases he
                   · cases he
                 · cases he
               · cases he
             · cases he
         · cases he
       · cases he
     · cases he
   · cases he
 · cases he
end
end Go.Proofs.YtdipnhghdajplaaGreatDoor
namespace Go.Proofs.YtdipnhghdajplaaGreatDoor
open Go.RowKit
set_option linter.unusedSimpArgs false
set_option linter.unusedVariables false
abbrev CallF := Lim → FuncId → List Value → Hp → Option (Value × Hp)
inductive OR where
 | val (v : Value) (H : Hp)
 | call (f : FuncId) (args : List Value)
 | no
def OR.of : Option (Value × Hp) → OR
 | some (v, H) => .val v H
 | none => .no
def opA (P : Program) (L : Lim) (H : Hp) (e : Operand → Option Value) (tgt : Option Nat) (o : Oper) : OR :=
 match pureA P H e o with
 | some v => .val v H
 | none => match o.op with
   | .load t x => match loadA P H e t x with
     | some (_, v) => .val v H
     | none => .no
   | .store t x y => match storeA P L H e t x y with
     | some H' => .val undef H'
     | none => .no
   | .call { callee := .builtin .append, args, argTypes } => .of (appendA P L H e tgt argTypes args)
   | .call { callee := .value f, args, .. } => match e f, evl e args.toList with
     | some (.func (.func g) fst cap), some vs => .call g (fst.toList ++ vs ++ cap.toList)
     | _, _ => .no
   | _ => .of (newA P H e tgt o)
def putT (T : List Value) (dst : Option Tmp) (v : Value) : List Value :=
 match dst with
 | some d => T.set d v
 | none => T
def stepA (P : Program) (call : CallF) (L : Lim) (ops : Array Oper) (tgt : Option Nat) (o : Oper) (T : List Value) (H : Hp) : Option (List Value × Hp) :=
 if Region.wanted o (yielded ops T.toArray) then
   match opA P L H (ev T) tgt o with
   | .val v H' => some (putT T o.dst v, H')
   | .call f vs => match P.funcs[f]? with
     | some fn => if fn.name ≠ "runtime.NumGoroutine" ∧ fn.body.isSome then (match call L f vs H with
       | some (v, H') => some (putT T o.dst v, H')
       | none => none) else none
     | none => none
   | .no => none
 else some (putT T o.dst undef, H)
def opsA (P : Program) (call : CallF) (L : Lim) (ops : Array Oper) : List Oper → List Value → Hp → Option (List Value × Hp)
 | [], T, H => some (T, H)
 | o :: r, T, H => match stepA P call L ops none o T H with
   | some (T', H') => opsA P call L ops r T' H'
   | none => none
def CallOK (P : Program) (call : CallF) : Prop := ∀ L f vs H v H' p w (args : Array Value), call L f vs H = some (v, H') → Rel p H w → VL H.al p vs args.toList →
 Calls P f args w (fun e w' => ∃ v' p', e = .returned v' ∧ Stp L p H w p' H' w' ∧ VR H'.al p' v v')
section
variable {P : Program} {call : CallF} {p p' : Nat → Pla} {H H' : Hp} {w w' : World} {T T' : List Value} {a : Act} {v : Value} {L : Lim} {tgt : Option Nat} {ops : Array Oper} {A : Nat → Prop} {o : Oper}
theorem TR.put (h : TR A p T a.tmps) {v v' : Value} (hv : VR A p v v') (dst : Option Tmp) : TR A p (putT T dst v) (a.put dst v').tmps := by
 cases dst with
 | none => exact h
 | some d => simpa [putT, Act.put, TR] using h.set hv d
theorem put_defers (dst : Option Tmp) (v : Value) : (a.put dst v).defers = a.defers := by cases dst <;> rfl
theorem yielded_ok (h : TR A p T a.tmps) (j : Nat) : yielded ops T.toArray j = yielded ops a.tmps j := by
 unfold yielded
 cases hd : (ops[j]?).bind (·.dst) with
 | none => rfl
 | some d =>
   simp only [Option.bind_some, List.getElem?_toArray]
   cases ht : T[d]? with
   | none =>
     have hl : T.length ≤ d := by simpa using ht
     have h2 : a.tmps.size ≤ d := by have := h.1; simp at this; omega
     rw [Array.getElem?_eq_none h2]
   | some u =>
     obtain ⟨u', h1, h2⟩ := h.2 d u ht
     simp only [Array.getElem?_toList] at h1
     rw [h1]
     cases h2 <;> rfl
theorem wanted_ok (h : TR A p T a.tmps) : Region.wanted o (yielded ops T.toArray) = Region.wanted o (yielded ops a.tmps) := by
 unfold Region.wanted
 split
 · rfl
 · rw [yielded_ok h]
theorem stepA_ok (hcall : CallOK P call) (he : stepA P call L ops tgt o T H = some (T', H')) (h : Rel p H w) (hT : TR H.al p T a.tmps) {K : Act → World → Prop} {Q : Exit → Act → World → Prop}
   (hK : ∀ p' a' w', Stp L p H w p' H' w' → TR H'.al p' T' a'.tmps → a'.defers = a.defers → K a' w') :
   if Region.wanted o (yielded ops a.tmps) = true then o.wp P a w K Q else K (a.put o.dst undef) w := by
 unfold stepA at he
 rw [wanted_ok hT] at he
 split at he
 · rename_i hw
   rw [if_pos hw]
   have done : ∀ {v v' : Value} {H1 : Hp} {p1 : Nat → Pla} {w1 : World}, (execOp a.eval o).run P w = .ok (.value v') w1 → Stp L p H w p1 H1 w1 → VR H1.al p1 v v' → some (putT T o.dst v, H1) = some (T', H') → o.wp P a w K Q := by
     intro v v' H1 p1 w1 hr hs hv hq
     injection hq with hq; injection hq with e1 e2; subst e1 e2
     unfold Oper.wp; rw [hr]
     exact hK p1 _ w1 hs (TR.put (VL.mono hs.same hT) hv _) (put_defers _ _)
   cases hp : pureA P H (ev T) o with
   | some v =>
     obtain ⟨v', h1, h2⟩ := pureA_ok (a := a) h hT hp
     rw [show opA P L H (ev T) tgt o = .val v H by unfold opA; rw [hp]] at he
     exact done (h2 w) (Stp.refl h) h1 he
   | none =>
     have key : opA P L H (ev T) tgt o = (match o.op with
       | .load t x => match loadA P H (ev T) t x with
         | some (_, v) => .val v H
         | none => .no
       | .store t x y => match storeA P L H (ev T) t x y with
         | some H' => .val undef H'
         | none => .no
       | .call { callee := .builtin .append, args, argTypes } => .of (appendA P L H (ev T) tgt argTypes args)
       | .call { callee := .value f, args, .. } => match ev T f, evl (ev T) args.toList with
         | some (.func (.func g) fst cap), some vs => .call g (fst.toList ++ vs ++ cap.toList)
         | _, _ => .no
       | _ => .of (newA P H (ev T) tgt o)) := by unfold opA; rw [hp]
     rw [key] at he
     clear key hp
     split at he
     · rename_i v H1 hop
       split at hop
       · rename_i t x ho
         split at hop
         · rename_i b u hl
           injection hop with e1 e2; subst e1 e2
           obtain ⟨_, v', h1, h2⟩ := loadA_ok (a := a) h hT hl
           refine done (v' := v') (p1 := p) (w1 := w) ?_ (Stp.refl h) h1 he
           unfold execOp; simp only [ho]; rw [Sem.run_bind, h2 w (fun _ => rfl)]; rfl
         · cases hop
       · rename_i t x y ho
         split at hop
         · rename_i H2 hl
           injection hop with e1 e2; subst e1 e2
           obtain ⟨w1, h1, h2⟩ := storeA_ok (a := a) h hT hl
           injection he with he; injection he with e1 e2; subst e1 e2
           unfold Oper.wp execOp
           simp only [ho]
           rw [Sem.run_bind, h1]
           exact hK p _ w1 h2 (TR.put (VL.mono h2.same hT) VR.undef _) (put_defers _ _)
         · cases hop
       · rename_i args ats ho
         cases hq : appendA P L H (ev T) tgt ats args with
         | none => rw [hq] at hop; cases hop
         | some q =>
           obtain ⟨u, H2⟩ := q
           rw [hq] at hop
           injection hop with e1 e2; subst e1 e2
           obtain ⟨v', p1, w1, h1, h2, h3⟩ := appendA_ok (a := a) (ty := o.type) h hT hq
           refine done (v' := v') (p1 := p1) (w1 := w1) ?_ h2 h3 he
           unfold execOp; simp only [ho]
           simp [resolve, invoke, builtin, h1]
       · split at hop <;> cases hop
       · cases hq : newA P H (ev T) tgt o with
         | none => rw [hq] at hop; cases hop
         | some q =>
           obtain ⟨u, H2⟩ := q
           rw [hq] at hop
           injection hop with e1 e2; subst e1 e2
           obtain ⟨v', p1, w1, h1, h2, h3⟩ := newA_ok (a := a) L h hT hq
           exact done (v' := v') (p1 := p1) (w1 := w1) h1 h2 h3 he
     · rename_i f vs hop
       split at hop
       · split at hop <;> cases hop
       · split at hop <;> cases hop
       · rename_i args ats ho
         cases hq : appendA P L H (ev T) tgt ats args with
         | none => rw [hq] at hop; cases hop
         | some q => rw [hq] at hop; cases hop
       · rename_i xop fo args ats ho
         split at hop
         · rename_i g fst cap vs' hf hvs
           injection hop with e1 e2; subst e1 e2
           split at he
           · rename_i fn hfn
             split at he
             · rename_i hc
               split at he
               · rename_i u H2 hcl
                 injection he with he; injection he with e1 e2; subst e1 e2
                 have hv := ev_ok hT hf
                 have hargs := evl_ok hT hvs
                 have hfv : ∃ ys us, a.eval fo = .func (.func g) ys us ∧ VL H.al p fst.toList ys.toList ∧ VL H.al p cap.toList us.toList := by
                   generalize a.eval fo = z at hv
                   cases hv with
                   | fn _ => exact ⟨#[], #[], rfl, VL.nil, VL.nil⟩
                   | clo _ xs ys us vs hl h kl k => exact ⟨ys, vs, rfl, VL.of_arr hl h, VL.of_arr kl k⟩
                 obtain ⟨ys, us, hfv, hys, hus⟩ := hfv
                 have hr : (execOp a.eval o).run P w = .ok (.enter g (ys ++ args.map a.eval ++ us)) w := by
                   unfold execOp; simp only [ho]
                   obtain ⟨bd, hb⟩ := Option.isSome_iff_exists.1 hc.2
                   simp [resolve, hfv, Deferred.ofValue, invoke, callFunc, hfn, hc.1, hb]
                 unfold Oper.wp
                 rw [hr]
                 refine (hcall L g _ H u H2 p w (ys ++ args.map a.eval ++ us) hcl h (by simpa [List.append_assoc] using (hys.append hargs).append hus)).mono fun e w1 ⟨v', p1, he1, h2, h3⟩ => ?_
                 subst he1
                 exact hK p1 _ w1 h2 (TR.put (VL.mono h2.same hT) h3 _) (put_defers _ _)
               · cases he
             · cases he
           · cases he
         · cases hop
       · cases hq : newA P H (ev T) tgt o with
         | none => rw [hq] at hop; cases hop
         | some q => rw [hq] at hop; cases hop
     · cases he
 · rename_i hw
   rw [if_neg hw]
   injection he with he; injection he with e1 e2; subst e1 e2
   exact hK p _ w (Stp.refl h) (TR.put hT VR.undef _) (put_defers _ _)
theorem opsA_ok (hcall : CallOK P call) {Q : Exit → Act → World → Prop} : ∀ {l : List Oper} {T : List Value} {H : Hp} {p : Nat → Pla} {a : Act} {w : World}, opsA P call L ops l T H = some (T', H') → Rel p H w → TR H.al p T a.tmps →
   (∀ p' a' w', Stp L p H w p' H' w' → TR H'.al p' T' a'.tmps → a'.defers = a.defers → Q .normal a' w') → wpList P ops Q l a w
 | [], T, H, p, a, w, he, h, hT, hQ => by
   simp only [opsA, Option.some.injEq, Prod.mk.injEq] at he
   obtain ⟨rfl, rfl⟩ := he
   exact wpList_nil (hQ p a w (Stp.refl h) hT rfl)
 | o :: r, T, H, p, a, w, he, h, hT, hQ => by
   simp only [opsA] at he
   split at he
   · rename_i T1 H1 hs
     refine wpList_step fun K hK => stepA_ok hcall hs h hT fun p1 a1 w1 h1 h2 h3 => hK _ _ ?_
     exact opsA_ok hcall he h1.rel h2 fun p2 a2 w2 k1 k2 k3 => hQ p2 a2 w2 (h1.trans k1) k2 (k3.trans h3)
   · cases he
end
end Go.Proofs.YtdipnhghdajplaaGreatDoor
namespace Go.Proofs.YtdipnhghdajplaaGreatDoor
open Go.RowKit
set_option linter.unusedSimpArgs false
set_option linter.unusedVariables false
def takeK (o : Oper) : Bool :=
 match o.op with
 | .move _ | .assign _ | .pick .. | .binOp .. | .unOp .. | .convert .. | .extract .. | .field .. | .fieldAddr .. | .index .. | .indexAddr .. | .slice .. | .build .. | .nilCheck _ | .load .. => true
 | .call { callee := .builtin .len, .. } => true
 | .call { callee := .builtin .min, .. } => true
 | .call { callee := .builtin .max, .. } => true
 | _ => false
inductive Pl where
 | done
 | take (i : Nat) (r : Pl)
 | one (i : Nat) (r : Pl)
 | two (i j : Nat) (ri rj : Pl)
 | three (i j k : Nat) (ri rj rk : Pl)
def planA (ops : Array Oper) : Nat → Array Bool → Pl
 | 0, _ => .done
 | n + 1, listed =>
   match (Region.ready .any ops listed).find? (fun i => (ops[i]?).any takeK && Region.free .any ops listed i) with
   | some i => .take i (planA ops n (listed.setIfInBounds i true))
   | none => match Region.ready .any ops listed with
     | [] => .done
     | [i, j] => .two i j (planA ops n (listed.setIfInBounds i true)) (planA ops n (listed.setIfInBounds j true))
     | [i, j, k] => .three i j k (planA ops n (listed.setIfInBounds i true)) (planA ops n (listed.setIfInBounds j true)) (planA ops n (listed.setIfInBounds k true))
     | i :: _ => .one i (planA ops n (listed.setIfInBounds i true))
def planOk (ops : Array Oper) : Pl → Nat → Array Bool → Bool
 | .done, 0, listed => (Region.ready .any ops listed).isEmpty
 | .take i r, n + 1, listed => (Region.ready .any ops listed).contains i && Region.free .any ops listed i && planOk ops r n (listed.setIfInBounds i true)
 | .one i r, n + 1, listed => Region.ready .any ops listed == [i] && planOk ops r n (listed.setIfInBounds i true)
 | .two i j ri rj, n + 1, listed => Region.ready .any ops listed == [i, j] && planOk ops ri n (listed.setIfInBounds i true) && planOk ops rj n (listed.setIfInBounds j true)
 | .three i j k ri rj rk, n + 1, listed => Region.ready .any ops listed == [i, j, k] && planOk ops ri n (listed.setIfInBounds i true) && planOk ops rj n (listed.setIfInBounds j true) && planOk ops rk n (listed.setIfInBounds k true)
 | _, _, _ => false
def Pl.forks : Pl → Bool
 | .done => false
 | .take _ r => r.forks
 | .one _ r => r.forks
 | .two .. => true
 | .three .. => true
def anc (ops : Array Oper) : Nat → Nat → List Nat
 | 0, _ => []
 | n + 1, j => match ops[j]? with
   | some oj => oj.after.toList.flatMap fun e => if Region.binds .any e then e.on :: anc ops n e.on else []
   | none => []
def early (ops : Array Oper) (j : Nat) : Bool :=
 match ops[j]? with
 | some oj => !((List.range ops.size).all fun i => match ops[i]? with
   | some oi => match oi.op with
     | .load .. => (oj.after.any fun e => Region.binds .any e && e.on == i) || (anc ops 4 j).contains i
     | _ => true
   | none => true)
 | none => true
inductive Waits (ops : Array Oper) (i : Nat) : Nat → Prop
 | one {j : Nat} {oj : Oper} (hj : ops[j]? = some oj) {e : Edge} (he : e ∈ oj.after) (hb : Region.binds .any e = true) (h : e.on = i) : Waits ops i j
 | far {j : Nat} {oj : Oper} (hj : ops[j]? = some oj) {e : Edge} (he : e ∈ oj.after) (hb : Region.binds .any e = true) (h : Waits ops i e.on) : Waits ops i j
theorem anc_waits {ops : Array Oper} {i : Nat} : ∀ {n j : Nat}, i ∈ anc ops n j → Waits ops i j
 | 0, j, h => by simp [anc] at h
 | n + 1, j, h => by
   simp only [anc] at h
   split at h
   · rename_i oj hj
     obtain ⟨e, he, hi⟩ := List.mem_flatMap.1 h
     have he := Array.mem_toList_iff.1 he
     split at hi
     · rename_i hb
       rcases List.mem_cons.1 hi with h1 | h1
       · exact .one hj he hb h1.symm
       · exact .far hj he hb (anc_waits h1)
     · cases hi
   · cases h
def Closed (ops : Array Oper) (l : Array Bool) : Prop := ∀ k ok, ops[k]? = some ok → l.getD k false = true → ∀ e ∈ ok.after, Region.binds .any e = true → l.getD e.on false = true
theorem Closed.set {ops : Array Oper} {l : Array Bool} {j : Nat} (h : Closed ops l) (hj : j ∈ Region.ready .any ops l) : Closed ops (l.setIfInBounds j true) := by
 obtain ⟨h0, oj, hoj, hall⟩ := mem_ready.1 hj
 intro k ok hk hl e he hb
 by_cases hjk : j = k
 · subst hjk
   rw [hoj] at hk; injection hk with hk; subst hk
   exact getD_set_true (hall e he hb)
 · rw [getD_set_ne false hjk] at hl
   exact getD_set_true (h k ok hk hl e he hb)
theorem Closed.start {ops : Array Oper} {n : Nat} : Closed ops (Array.replicate n false) := by
 intro k ok hk hl
 exfalso
 rw [Array.getD_eq_getD_getElem?] at hl
 by_cases h : k < n
 · simp [h] at hl
 · simp [h] at hl
theorem Waits.back {ops : Array Oper} {l : Array Bool} {i j : Nat} (hc : Closed ops l) (h : Waits ops i j) : l.getD j false = true → l.getD i false = true := by
 induction h with
 | one hj he hb h => intro hl; have := hc _ _ hj hl _ he hb; rwa [h] at this
 | far hj he hb _ ih => intro hl; exact ih (hc _ _ hj hl _ he hb)
theorem Waits.not_ready {ops : Array Oper} {l : Array Bool} {i j : Nat} (hc : Closed ops l) (hi : i ∈ Region.ready .any ops l) (h : Waits ops i j) (hj : j ∈ Region.ready .any ops l) : False := by
 have key : l.getD i false = true := by
   obtain ⟨_, oj, hoj, hall⟩ := mem_ready.1 hj
   cases h with
   | one hj2 he hb h => rw [hj2] at hoj; injection hoj with hoj; subst hoj; have := hall _ he hb; rwa [h] at this
   | far hj2 he hb h => rw [hj2] at hoj; injection hoj with hoj; subst hoj; exact h.back hc (hall _ he hb)
 have g0 := (mem_ready.1 hi).1
 by_cases hil : i < l.size
 · simp [hil] at g0 key; rw [g0] at key; cases key
 · simp [Array.getElem?_eq_none (Nat.le_of_not_lt hil)] at key
def planOf (ops : Array Oper) : Option Pl :=
 let pl := planA ops ops.size (Array.replicate ops.size false)
 if planOk ops pl ops.size (Array.replicate ops.size false) ∧ Region.noSelect ops then some pl else none
def takeV (P : Program) (L : Lim) (m : Bool) (H0 H : Hp) (T : List Value) (ops : Array Oper) (o : Oper) : Option Value :=
 if Region.wanted o (yielded ops T.toArray) then
   match pureA P H (ev T) o with
   | some v => some v
   | none => match o.op with
     | .load t x => match loadA P H (ev T) t x with
       | some (b, v) => match H0.get b with
         | some blk => if !m || (blk.own && L.ok b) then none else some v
         | none => none
       | none => none
     | _ => none
 else some undef
open Classical in
noncomputable def followA (P : Program) (call : CallF) (L L1 : Lim) (ops : Array Oper) (base : Option Nat) (H0 : Hp) : Bool → Pl → List Value → Hp → Option (List Value × Hp)
 | _, .done, T, H => some (T, H)
 | m, .take i r, T, H => match ops[i]? with
   | some o => match takeV P L1 m H0 H T ops o with
     | some v => followA P call L L1 ops base H0 m r (putT T o.dst v) H
     | none => none
   | none => none
 | m, .one i r, T, H => match ops[i]? with
   | some o => match m && early ops i, early ops i with
     | true, _ => match stepA P call L1 ops (base.map (· + i)) o T H with
       | some (T', H') => followA P call L L1 ops base H0 true r T' H'
       | none => none
     | false, false => match stepA P call L ops (base.map (· + i)) o T H with
       | some (T', H') => followA P call L L1 ops base H0 false r T' H'
       | none => none
     | false, true => none
   | none => none
 | m, .two i j ri rj, T, H => match ops[i]?, ops[j]? with
   | some oi, some oj => match m with
     | true => match stepA P call L1 ops (base.map (· + i)) oi T H, stepA P call L1 ops (base.map (· + j)) oj T H with
       | some (T1, H1), some (T2, H2) => match followA P call L L1 ops base H0 true ri T1 H1, followA P call L L1 ops base H0 true rj T2 H2 with
         | some s1, some s2 => if s1 = s2 then some s1 else none
         | _, _ => none
       | _, _ => none
     | false => none
   | _, _ => none
 | m, .three i j k ri rj rk, T, H => match ops[i]?, ops[j]?, ops[k]? with
   | some oi, some oj, some ok => match m with
     | true => match stepA P call L1 ops (base.map (· + i)) oi T H, stepA P call L1 ops (base.map (· + j)) oj T H, stepA P call L1 ops (base.map (· + k)) ok T H with
       | some (T1, H1), some (T2, H2), some (T3, H3) => match followA P call L L1 ops base H0 true ri T1 H1, followA P call L L1 ops base H0 true rj T2 H2, followA P call L L1 ops base H0 true rk T3 H3 with
         | some s1, some s2, some s3 => if s1 = s2 ∧ s1 = s3 then some s1 else none
         | _, _, _ => none
       | _, _, _ => none
     | false => none
   | _, _, _ => none
def guessT (P : Program) (H : Hp) (T : List Value) : List Oper → List Value
 | [] => T
 | o :: r => match pureA P H (ev T) o with
   | some v => guessT P H (putT T o.dst v) r
   | none => match o.op with
     | .load t x => match loadA P H (ev T) t x with
       | some (_, v) => guessT P H (putT T o.dst v) r
       | none => guessT P H T r
     | _ => guessT P H T r
def blkOf : Option Value → List Nat
 | some (.pointer (some a)) => [a.block]
 | _ => []
def guessW (T : List Value) (ops : Array Oper) : Nat → List Oper → List Nat
 | _, [] => []
 | n, o :: r => (match o.op with
   | .load _ x => blkOf (ev T x)
   | _ => []) ++ guessW T ops (n + 1) r
def Hp.keep (H : Hp) : Nat → Hp
 | 0 => H
 | n + 1 => (H.push .fresh).keep n
noncomputable def drawA (P : Program) (call : CallF) (L : Lim) (ops : Array Oper) (T : List Value) (H : Hp) : Option (List Value × Hp) :=
 match planOf ops with
 | some pl => if pl.forks then followA P call L ((H.n, guessW (guessT P H T ops.toList) ops 0 ops.toList) :: L) ops (some H.n) (H.keep ops.size) true pl T (H.keep ops.size)
   else followA P call L ((H.n, guessW (guessT P H T ops.toList) ops 0 ops.toList) :: L) ops none H true pl T H
 | none => none
def Qn (R : Act → World → Prop) : Exit → Act → World → Prop
 | .normal, a, w => R a w
 | _, _, _ => False
section
variable {P : Program} {call : CallF} {p p' p0 : Nat → Pla} {H H' H0 : Hp} {w w' w0 : World} {T T' : List Value} {a : Act} {v : Value} {L : Lim} {ops : Array Oper} {o : Oper} {x : Nat × List Nat}
theorem Rel.drew (h : Rel p H w) : Rel p H { w with drawn := w.drawn + 1 } := ⟨h.len, h.cell, h.own, h.esz, h.lt, h.apart⟩
theorem Stp.less (h : Stp (x :: L) p H { w with drawn := w.drawn + 1 } p' H' w') : Stp L p H w p' H' w' := by
 have hl : ∀ i, Lim.ok (x :: L) i = true → L.ok i = true := fun i hi => by
   unfold Lim.ok at hi ⊢
   simp only [List.all_cons, Bool.and_eq_true] at hi
   exact hi.2
 refine ⟨h.same, h.rel, h.os, h.tape, h.output, h.size, fun b hb hn => h.frame b hb fun i ⟨c, h1, h2, h3⟩ => hn i ⟨c, h1, h2, hl i h3⟩, fun j c hc ho => ?_⟩
 rcases h.mine j c hc ho with h1 | ⟨i, h1, h2, h3⟩
 · exact .inl h1
 · refine .inr ⟨i, ?_, h2, h3⟩
   rcases h1 with rfl | h1
   · exact .inl rfl
   · exact .inr (hl i h1)
theorem Hp.keep_ent (H : Hp) (n : Nat) : (∀ j, (H.keep n).ent j = H.ent j) ∧ (H.l.length = H.n → (H.keep n).l.length = (H.keep n).n) := by
 induction n generalizing H with
 | zero => exact ⟨fun j => rfl, id⟩
 | succ n ih =>
   obtain ⟨h1, h2⟩ := ih (H.push .fresh)
   refine ⟨fun j => ?_, fun h => h2 (by simp [Hp.push, h])⟩
   show ((H.push .fresh).keep n).ent j = H.ent j
   rw [h1, Hp.ent_push]
   by_cases hj : j = H.n
   · subst hj; rw [if_pos rfl]; unfold Hp.ent; rw [if_neg (by omega)]
   · rw [if_neg hj]
theorem Rel.keep (h : Rel p H w) (n : Nat) : Rel p (H.keep n) w := by
 obtain ⟨h1, h2⟩ := Hp.keep_ent H n
 have hg : ∀ j, (H.keep n).get j = H.get j := fun j => by unfold Hp.get; rw [h1]
 have ha : (H.keep n).al = H.al := by funext j; unfold Hp.al; rw [h1]
 refine ⟨h2 h.len, ?_, ?_, ?_, ?_, ?_⟩
 · intro i b hb; rw [ha]; exact h.cell i b (by rw [← hg]; exact hb)
 · intro i b hb; exact h.own i b (by rw [← hg]; exact hb)
 · intro i b hb; exact h.esz i b (by rw [← hg]; exact hb)
 · intro i b hb; exact h.lt i b (by rw [← hg]; exact hb)
 · intro i j b c hb hc; exact h.apart i j b c (by rw [← hg]; exact hb) (by rw [← hg]; exact hc)
theorem Stp.keep (h : Rel p H w) (n : Nat) : Stp L p H w p (H.keep n) w := by
 obtain ⟨h1, h2⟩ := Hp.keep_ent H n
 have hg : ∀ j, (H.keep n).get j = H.get j := fun j => by unfold Hp.get; rw [h1]
 exact ⟨fun b hb => ⟨by unfold Hp.al; rw [h1]; exact hb, rfl⟩, h.keep n, rfl, rfl, rfl, Nat.le_refl _, fun _ _ _ => rfl, fun j c hc ho => .inr ⟨j, .inl rfl, ⟨c, by rw [← hg]; exact hc, ho⟩, rfl⟩⟩
def Still (L : Lim) (p : Nat → Pla) (H : Hp) (w : World) (w2 : World) : Prop := ∀ b, b < w.heap.size → (∀ i, Wr1 L H i → (p i).blk ≠ b) → w2.heap[b]? = w.heap[b]?
def wpAnyK (P : Program) (ops : Array Oper) (Q : Exit → Act → World → Prop) (S : World → Prop) (K : Nat → Bool) : Nat → Array Bool → Act → World → Prop
 | 0, l, a, w => Region.ready .any ops l = [] ∧ Q .normal a w
 | n + 1, l, a, w => (Region.ready .any ops l = [] → Q .normal a w) ∧ ∀ i ∈ Region.ready .any ops l, wpOp P ops Q i (fun a' w' => (K i = true → S w → S w') ∧ wpAnyK P ops Q S K n (l.setIfInBounds i true) a' w') a w
section
variable {Q : Exit → Act → World → Prop} {S S' : World → Prop} {K : Nat → Bool}
theorem wpAny_of_K : ∀ (n : Nat) (l : Array Bool) (a : Act) (w : World), wpAnyK P ops Q S K n l a w → wpAny P .any ops Q n l a w
 | 0, _, _, _, h => h
 | n + 1, _, _, _, h => ⟨h.1, fun i hi => wpOp_mono (fun a' w' k => wpAny_of_K n _ a' w' k.2) (h.2 i hi)⟩
theorem wpAnyK_end {l : Array Bool} (hr : Region.ready .any ops l = []) (h : Q .normal a w) : ∀ (n : Nat), wpAnyK P ops Q S K n l a w
 | 0 => And.intro hr h
 | n + 1 => And.intro (fun _ => h) (fun i hi => by rw [hr] at hi; cases hi)
theorem wpAnyK_first {i : Nat} {oi : Oper} (hi : ops[i]? = some oi) (hsel : Region.noSelect ops = true) (hQ : ∀ c a w, Q (.panic c) (a.put oi.dst v) w → Q (.panic c) a w)
   (hK : ∀ j oj, ops[j]? = some oj → (∀ w w', S' w → (K j = true → S w → S w') → S' w') ∨ Waits ops i j) (n : Nat) :
   ∀ (l : Array Bool) (a : Act) (w : World), Closed ops l → (∀ j oj, ops[j]? = some oj → j ≠ i → l.getD j true = false → (∀ e ∈ oj.after, Region.binds .any e = true → e.on ≠ i) → oi.apart ops oj = true) →
     i ∈ Region.ready .any ops l → YieldsIf P ops S' oi v a → S' w → wpAnyK P ops Q S K n (l.setIfInBounds i true) (a.put oi.dst v) w → wpAnyK P ops Q S K (n + 1) l a w := by
 have none_sel := Region.noSelect_spec hsel
 induction n with
 | zero =>
   intro l a w _ _ hr hy hS H
   refine ⟨fun h => (by rw [h] at hr; cases hr), fun j hj => ?_⟩
   rcases Nat.decEq j i with hji | hji
   · have := ready_mono hj hji
     rw [H.1] at this
     cases this
   · rw [hji]; exact hy.wpOp hi hS ⟨fun _ h => h, H⟩
 | succ n ih =>
   intro l a w hcl hf hr hy hS H
   refine ⟨fun h => (by rw [h] at hr; cases hr), fun j hj => ?_⟩
   rcases Nat.decEq j i with hji | hji
   · obtain ⟨hju, oj, hoj, hall⟩ := mem_ready.1 hj
     have hno : ∀ e ∈ oj.after, Region.binds .any e = true → e.on ≠ i := fun e he hb heq => by
       have g1 := hall e he hb
       have g0 := (mem_ready.1 hr).1
       rw [heq] at g1
       by_cases hil : i < l.size
       · simp [hil] at g0 g1; rw [g0] at g1; cases g1
       · simp [Array.getElem?_eq_none (Nat.le_of_not_lt hil)] at g1
     have g2 := wpOp_putIf hoj (hf j oj hoj hji hju hno) (fun cs b => none_sel i oi cs b hi) (fun cs b => none_sel j oj cs b hoj) hQ hy (H.2 j (ready_mono hj hji))
     refine wpOp_mono (fun a' w' g3 => ?_) g2
     have g4 : S' w' := by
       rcases hK j oj hoj with g5 | hwt
       · exact g5 w w' hS g3.2.1
       · exact (hwt.not_ready hcl hr hj).elim
     refine ⟨g3.2.1, ih (l.setIfInBounds j true) a' w' (hcl.set hj) (fun k ok hk hki hun hnk => hf k ok hk hki ?_ hnk) (ready_mono hr (Ne.symm hji)) g3.1 g4 (by rw [Array.setIfInBounds_comm _ _ hji]; exact g3.2.2)⟩
     by_cases hjk : j = k
     · rw [← hjk]; exact hju
     · rw [getD_set_ne true hjk] at hun; exact hun
   · rw [hji]; exact hy.wpOp hi hS ⟨fun _ h => h, H⟩
end
theorem takeV_ok {m : Bool} (h0 : Rel p0 H0 w0) (hr : Rel p H w) (h : m = true → Stp L p0 H0 w0 p H w) (hT : TR H.al p T a.tmps) (he : takeV P L m H0 H T ops o = some v) :
   ∃ v', VR H.al p v v' ∧ (YieldsIf P ops (fun _ => True) o v' a ∨ (m = true ∧ (∃ t x, o.op = .load t x) ∧ YieldsIf P ops (Still L p0 H0 w0) o v' a)) := by
 unfold takeV at he
 rw [wanted_ok hT] at he
 split at he
 · rename_i hw
   cases hp : pureA P H (ev T) o with
   | some u =>
     rw [hp] at he; injection he with he; subst he
     obtain ⟨v', h1, h2⟩ := pureA_ok (a := a) hr hT hp
     exact ⟨v', h1, .inl (.inl ⟨hw, fun w2 _ => h2 w2⟩)⟩
   | none =>
     rw [hp] at he
     simp only at he
     split at he
     · rename_i t x ho
       split at he
       · rename_i b u hl
         split at he
         · rename_i blk hg
           split at he
           · cases he
           · rename_i hown
             simp only [Bool.or_eq_true, Bool.not_eq_true', not_or, Bool.not_eq_false] at hown
             injection he with he; subst he
             have hm := hown.1
             have h := h hm
             obtain ⟨_, v', h1, h2⟩ := loadA_ok (a := a) hr hT hl
             have hp0 : p b = p0 b := (h.same b (Hp.al_of_get hg)).2
             have hq : ∀ i, Wr1 L H0 i → (p0 i).blk ≠ (p0 b).blk := fun i ⟨c, g1, g2, g3⟩ e => by
               have := h0.apart i b c blk g1 hg g2 e
               subst this
               rw [hg] at g1; injection g1 with g1; subst g1
               exact hown.2 (by simp [g2, g3])
             have hS := h.frame _ (h0.lt b blk hg) hq
             refine ⟨v', h1, .inr ⟨hm, ⟨t, x, ho⟩, .inl ⟨hw, fun w2 hw2 => ?_⟩⟩⟩
             have e2 := hw2 _ (h0.lt b blk hg) hq
             unfold execOp; simp only [ho]
             rw [Sem.run_bind, h2 w2 (fun off => by unfold World.cell?; simp only [hp0, e2, hS])]
             rfl
         · cases he
       · cases he
     · cases he
 · rename_i hw
   injection he with he; subst he
   exact ⟨undef, VR.undef, .inl (.inr ⟨by simpa using hw, rfl⟩)⟩
theorem early_load {i j : Nat} {oi oj : Oper} (hi : ops[i]? = some oi) (hj : ops[j]? = some oj) (hl : ∃ t x, oi.op = .load t x) (he : early ops j = false) : Waits ops i j := by
 unfold early at he
 rw [hj] at he
 simp only [Bool.not_eq_false', List.all_eq_true, List.mem_range] at he
 have h1 := he i (by
   rcases Nat.lt_or_ge i ops.size with h | h
   · exact h
   · rw [Array.getElem?_eq_none h] at hi; cases hi)
 obtain ⟨t, x, ho⟩ := hl
 simp only [hi, ho, Bool.or_eq_true, Array.any_eq_true, List.contains_iff_mem] at h1
 rcases h1 with ⟨k, hk, h2⟩ | h1
 · simp only [Bool.and_eq_true, beq_iff_eq] at h2
   exact .one hj (Array.getElem_mem hk) h2.1 h2.2
 · exact anc_waits h1
theorem wpAnyK_all {Q : Exit → Act → World → Prop} {S : World → Prop} {K : Nat → Bool} {n : Nat} {l : Array Bool} {rs : List Nat} (hr : Region.ready .any ops l = rs) (hne : rs ≠ [])
   (h : ∀ i ∈ rs, wpOp P ops Q i (fun a' w' => (K i = true → S w → S w') ∧ wpAnyK P ops Q S K n (l.setIfInBounds i true) a' w') a w) : wpAnyK P ops Q S K (n + 1) l a w :=
 ⟨fun h0 => absurd (hr ▸ h0) hne, hr ▸ h⟩
theorem followA_ok {L1 : Lim} (hcall : CallOK P call) (hsel : Region.noSelect ops = true) (h0 : Rel p0 H0 w0) (hlim : ∀ {p' : Nat → Pla} {H' : Hp} {w' : World}, Stp L1 p0 H0 w0 p' H' w' → Stp L p0 H0 w0 p' H' w') {d : List Deferred} {base : Option Nat} {R : Act → World → Prop} : ∀ {pl : Pl} {m : Bool} {n : Nat} {listed : Array Bool} {T : List Value} {H : Hp} {p : Nat → Pla} {a : Act} {w : World},
   planOk ops pl n listed = true → Closed ops listed → followA P call L L1 ops base H0 m pl T H = some (T', H') → Stp L p0 H0 w0 p H w → (m = true → Stp L1 p0 H0 w0 p H w) → TR H.al p T a.tmps → a.defers = d →
   (∀ p' a' w', Stp L p0 H0 w0 p' H' w' → TR H'.al p' T' a'.tmps → a'.defers = d → R a' w') →
   wpAnyK P ops (Qn R) (Still L1 p0 H0 w0) (early ops) n listed a w
 | .done, m, 0, listed, T, H, p, a, w, hpl, hcl, he, h, h1, hT, hd, hR => by
   simp only [followA, Option.some.injEq, Prod.mk.injEq] at he
   obtain ⟨rfl, rfl⟩ := he
   exact wpAnyK_end (by simpa [planOk] using hpl) (hR p a w h hT hd) _
 | .done, m, n + 1, listed, T, H, p, a, w, hpl, hcl, he, h, h1, hT, hd, hR => by simp [planOk] at hpl
 | .take i r, m, 0, listed, T, H, p, a, w, hpl, hcl, he, h, h1, hT, hd, hR => by simp [planOk] at hpl
 | .one i r, m, 0, listed, T, H, p, a, w, hpl, hcl, he, h, h1, hT, hd, hR => by simp [planOk] at hpl
 | .two i j ri rj, m, 0, listed, T, H, p, a, w, hpl, hcl, he, h, h1, hT, hd, hR => by simp [planOk] at hpl
 | .three i j k ri rj rk, m, 0, listed, T, H, p, a, w, hpl, hcl, he, h, h1, hT, hd, hR => by simp [planOk] at hpl
 | .take i r, m, n + 1, listed, T, H, p, a, w, hpl, hcl, he, h, h1, hT, hd, hR => by
   simp only [planOk, Bool.and_eq_true] at hpl
   simp only [followA] at he
   split at he
   · rename_i o ho
     split at he
     · rename_i v hv
       obtain ⟨v', g1, g2⟩ := takeV_ok h0 h.rel h1 hT hv
       have hrd : i ∈ Region.ready .any ops listed := by simpa using hpl.1.1
       have rest := followA_ok hcall hsel h0 hlim hpl.2 (hcl.set hrd) he h h1 (TR.put hT g1 _) ((put_defers _ _).trans hd) hR
       rcases g2 with g2 | ⟨g3, g4, g2⟩
       · exact wpAnyK_first (S' := fun _ => True) ho hsel (fun _ _ _ hf => hf) (fun _ _ _ => .inl fun _ _ _ _ => trivial) n listed a w hcl (Region.free_spec ho hpl.1.2) hrd g2 trivial rest
       · refine wpAnyK_first ho hsel (fun _ _ _ hf => hf) (fun j oj hj => ?_) n listed a w hcl (Region.free_spec ho hpl.1.2) hrd g2 (h1 g3).frame rest
         cases he2 : early ops j with
         | true => exact .inl fun w1 w2 k1 k2 => k2 rfl k1
         | false => exact .inr (early_load ho hj g4 he2)
     · cases he
   · cases he
 | .one i r, m, n + 1, listed, T, H, p, a, w, hpl, hcl, he, h, h1, hT, hd, hR => by
   simp only [planOk, Bool.and_eq_true, beq_iff_eq] at hpl
   simp only [followA] at he
   split at he
   · rename_i o ho
     refine wpAnyK_all hpl.1 (by simp) fun j hj => ?_
     obtain rfl : j = i := by simpa using hj
     split at he
     · rename_i hme
       simp only [Bool.and_eq_true] at hme
       split at he
       · rename_i T1 H1 hs
         refine wpOp_step ho fun K hK => stepA_ok hcall hs h.rel hT fun p1 a1 w1 k1 k2 k3 => hK _ _ ?_
         have h3 := (h1 hme.1).trans k1
         exact ⟨fun _ _ => h3.frame, followA_ok hcall hsel h0 hlim hpl.2 (hcl.set (by rw [hpl.1]; simp)) he (hlim h3) (fun _ => h3) k2 (k3.trans hd) hR⟩
       · cases he
     · rename_i hme hne
       split at he
       · rename_i T1 H1 hs
         refine wpOp_step ho fun K hK => stepA_ok hcall hs h.rel hT fun p1 a1 w1 k1 k2 k3 => hK _ _ ?_
         exact ⟨fun hf => (by rw [hne] at hf; cases hf), followA_ok hcall hsel h0 hlim hpl.2 (hcl.set (by rw [hpl.1]; simp)) he (h.trans k1) (fun hf => by cases hf) k2 (k3.trans hd) hR⟩
       · cases he
     · cases he
   · cases he
 | .two i j ri rj, m, n + 1, listed, T, H, p, a, w, hpl, hcl, he, h, h1, hT, hd, hR => by
   simp only [planOk, Bool.and_eq_true, beq_iff_eq] at hpl
   simp only [followA] at he
   split at he
   · rename_i oi oj hoi hoj
     split at he
     · split at he
       · rename_i T1 H1 T2 H2 hs1 hs2
         split at he
         · rename_i s1 s2 hf1 hf2
           split at he
           · rename_i hss
             injection he with he
             subst hss he
             refine wpAnyK_all hpl.1.1 (by simp) fun m hm => ?_
             have hm2 : m = i ∨ m = j := by simpa using hm
             rcases hm2 with rfl | rfl
             · refine wpOp_step hoi fun K hK => stepA_ok hcall hs1 h.rel hT fun p1 a1 w1 k1 k2 k3 => hK _ _ ?_
               have h3 := (h1 rfl).trans k1
               exact ⟨fun _ _ => h3.frame, followA_ok hcall hsel h0 hlim hpl.1.2 (hcl.set (by rw [hpl.1.1]; simp)) hf1 (hlim h3) (fun _ => h3) k2 (k3.trans hd) hR⟩
             · refine wpOp_step hoj fun K hK => stepA_ok hcall hs2 h.rel hT fun p1 a1 w1 k1 k2 k3 => hK _ _ ?_
               have h3 := (h1 rfl).trans k1
               exact ⟨fun _ _ => h3.frame, followA_ok hcall hsel h0 hlim hpl.2 (hcl.set (by rw [hpl.1.1]; simp)) hf2 (hlim h3) (fun _ => h3) k2 (k3.trans hd) hR⟩
           · cases he
         · cases he
       · cases he
     · cases he
   · cases he
 | .three i j k ri rj rk, m, n + 1, listed, T, H, p, a, w, hpl, hcl, he, h, h1, hT, hd, hR => by
   simp only [planOk, Bool.and_eq_true, beq_iff_eq] at hpl
   simp only [followA] at he
   split at he
   · rename_i oi oj ok hoi hoj hok
     split at he
     · split at he
       · rename_i T1 H1 T2 H2 T3 H3 hs1 hs2 hs3
         split at he
         · rename_i s1 s2 s3 hf1 hf2 hf3
           split at he
           · rename_i hss
             obtain ⟨hss, hss3⟩ := hss
             injection he with he
             subst hss hss3 he
             refine wpAnyK_all hpl.1.1.1 (by simp) fun m hm => ?_
             have hm2 : m = i ∨ m = j ∨ m = k := by simpa using hm
             rcases hm2 with rfl | rfl | rfl
             · refine wpOp_step hoi fun K hK => stepA_ok hcall hs1 h.rel hT fun p1 a1 w1 k1 k2 k3 => hK _ _ ?_
               have h3 := (h1 rfl).trans k1
               exact ⟨fun _ _ => h3.frame, followA_ok hcall hsel h0 hlim hpl.1.1.2 (hcl.set (by rw [hpl.1.1.1]; simp)) hf1 (hlim h3) (fun _ => h3) k2 (k3.trans hd) hR⟩
             · refine wpOp_step hoj fun K hK => stepA_ok hcall hs2 h.rel hT fun p1 a1 w1 k1 k2 k3 => hK _ _ ?_
               have h3 := (h1 rfl).trans k1
               exact ⟨fun _ _ => h3.frame, followA_ok hcall hsel h0 hlim hpl.1.2 (hcl.set (by rw [hpl.1.1.1]; simp)) hf2 (hlim h3) (fun _ => h3) k2 (k3.trans hd) hR⟩
             · refine wpOp_step hok fun K hK => stepA_ok hcall hs3 h.rel hT fun p1 a1 w1 k1 k2 k3 => hK _ _ ?_
               have h3 := (h1 rfl).trans k1
               exact ⟨fun _ _ => h3.frame, followA_ok hcall hsel h0 hlim hpl.2 (hcl.set (by rw [hpl.1.1.1]; simp)) hf3 (hlim h3) (fun _ => h3) k2 (k3.trans hd) hR⟩
           · cases he
         · cases he
       · cases he
     · cases he
   · cases he
theorem Stp.drew (h : Stp L p H { w with drawn := w.drawn + 1 } p' H' w') : Stp L p H w p' H' w' := ⟨h.same, h.rel, h.os, h.tape, h.output, h.size, h.frame, h.mine⟩
theorem Stp.wide (h : Stp (x :: L) p H w p' H' w') : Stp L p H w p' H' w' := by
 have hl : ∀ i, Lim.ok (x :: L) i = true → L.ok i = true := fun i hi => by
   unfold Lim.ok at hi ⊢
   simp only [List.all_cons, Bool.and_eq_true] at hi
   exact hi.2
 refine ⟨h.same, h.rel, h.os, h.tape, h.output, h.size, fun b hb hn => h.frame b hb fun i ⟨c, h1, h2, h3⟩ => hn i ⟨c, h1, h2, hl i h3⟩, fun j c hc ho => ?_⟩
 rcases h.mine j c hc ho with h1 | ⟨i, h1, h2, h3⟩
 · exact .inl h1
 · refine .inr ⟨i, ?_, h2, h3⟩
   rcases h1 with rfl | h1
   · exact .inl rfl
   · exact .inr (hl i h1)
theorem drawA_ok (hm : P.follows .mixedOrders = true) (hcall : CallOK P call) {id : Nat} (he : drawA P call L ops T H = some (T', H')) (h : Rel p H w) (hT : TR H.al p T a.tmps) :
   (Code.region id ops true).wp P (Qn fun a' w' => ∃ p', Stp L p H w p' H' w' ∧ TR H'.al p' T' a'.tmps ∧ a'.defers = a.defers) a w := by
 unfold drawA at he
 split at he
 · rename_i pl hpl
   unfold planOf at hpl
   simp only at hpl
   split at hpl
   · rename_i hc
     injection hpl with hpl
     rw [hpl] at hc
     refine wp_region_any hm (wpAny_of_K (S := Still ((H.n, guessW (guessT P H T ops.toList) ops 0 ops.toList) :: L) p (if pl.forks then H.keep ops.size else H) { w with drawn := w.drawn + 1 }) (K := early ops) _ _ _ _ ?_)
     split at he
     · rename_i hf
       rw [if_pos hf]
       have hk := Hp.keep_ent H ops.size
       have hal : (H.keep ops.size).al = H.al := by funext j; unfold Hp.al; rw [hk.1]
       exact followA_ok (R := fun a' w' => ∃ p', Stp L p H w p' H' w' ∧ TR H'.al p' T' a'.tmps ∧ a'.defers = a.defers) hcall hc.2 (h.drew.keep _) (fun k => k.wide) hc.1 Closed.start he (Stp.refl (h.drew.keep _)) (fun _ => Stp.refl (h.drew.keep _)) (by rw [hal]; exact hT) rfl
         fun p' a' w' k1 k2 k3 => ⟨p', ((Stp.keep h.drew ops.size).trans k1).drew, k2, k3⟩
     · rename_i hf
       rw [if_neg hf]
       exact followA_ok (R := fun a' w' => ∃ p', Stp L p H w p' H' w' ∧ TR H'.al p' T' a'.tmps ∧ a'.defers = a.defers) hcall hc.2 h.drew (fun k => k.wide) hc.1 Closed.start he (Stp.refl h.drew) (fun _ => Stp.refl h.drew) hT rfl
         fun p' a' w' k1 k2 k3 => ⟨p', k1.drew, k2, k3⟩
   · cases hpl
 · cases he
end
end Go.Proofs.YtdipnhghdajplaaGreatDoor
