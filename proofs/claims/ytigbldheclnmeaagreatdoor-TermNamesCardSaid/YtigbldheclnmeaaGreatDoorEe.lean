/- The reckoner's operations that make new blocks. -/
import Derived.Test.YtigbldheclnmeaaGreatDoorEd
import Derived.Laws.IdiomStrings
namespace Go.Proofs.YtigbldheclnmeaaGreatDoor
open Go.RowKit
set_option linter.unusedSimpArgs false
set_option linter.unusedVariables false

/-- A new block, at its place, or at one that was kept for it. -/
def Hp.add (H : Hp) (tgt : Option Nat) (e : Ent) : Option (Nat × Hp) :=
  match tgt with
  | none => some (H.n, H.push e)
  | some k => if k < H.n then (match H.ent k with
    | .fresh => some (k, H.put k e)
    | _ => none) else none
theorem Hp.add_ok {H H' : Hp} {tgt : Option Nat} {e : Ent} {k : Nat} (hl : H.l.length = H.n) (h : H.add tgt e = some (k, H')) :
    H'.l.length = H'.n ∧ (∀ j, H'.ent j = if j = k then e else H.ent j) ∧ H.ent k = .fresh := by
  unfold Hp.add at h
  split at h
  · injection h with h; injection h with h1 h2; subst h1 h2
    refine ⟨by simp [Hp.push, hl], fun j => Hp.ent_push, ?_⟩
    unfold Hp.ent; rw [if_neg (by omega)]
  · split at h
    · rename_i k' hk
      split at h
      · rename_i he
        injection h with h; injection h with h1 h2; subst h1 h2
        exact ⟨by simp [Hp.put, hl], fun j => Hp.ent_put hl hk, he⟩
      · cases h
    · cases h
def updP (p : Nat → Pla) (k : Nat) (q : Pla) : Nat → Pla := fun j => if j = k then q else p j
section
variable {P : Program} {p p' : Nat → Pla} {H H' : Hp} {w w' : World} {T : List Value} {a : Act} {v : Value} {L : Lim} {tgt : Option Nat} {k : Nat}
theorem add_stp (L : Lim) (h : Rel p H w) {n : Nat} {cs : List Value} {ty : TypeId} {esz : Nat} (ha : H.add tgt (.live ⟨cs, ty, esz, true⟩) = some (k, H')) (ys : Array Value) (hv : VL H.al p cs ys.toList) (hn : 0 < esz → n ≤ maxLen ∧ ys.size = n * esz) :
    Stp L p H w (updP p k ⟨w.heap.size, 0, esz, ys.size⟩) H' (w.alloc (.cells ys ty)) ∧ H'.al k := by
  obtain ⟨h1, h2, h3⟩ := Hp.add_ok h.len ha
  have hne : ∀ b, H.al b → b ≠ k := fun b hb e => hb (e ▸ h3)
  have hmono : ∀ b, H.al b → H'.al b ∧ updP p k ⟨w.heap.size, 0, esz, ys.size⟩ b = p b := fun b hb => by
    have := hne b hb
    refine ⟨?_, by unfold updP; rw [if_neg this]⟩
    unfold Hp.al; rw [h2, if_neg this]; exact hb
  have hge : ∀ j c, j ≠ k → H'.get j = some c → H.get j = some c := fun j c hj hc => by
    have := Hp.ent_of_get hc; rw [h2, if_neg hj] at this; exact Hp.get_of_ent this
  have hk : updP p k ⟨w.heap.size, 0, esz, ys.size⟩ k = ⟨w.heap.size, 0, esz, ys.size⟩ := by unfold updP; rw [if_pos rfl]
  have hgk : H'.get k = some ⟨cs, ty, esz, true⟩ := Hp.get_of_ent (by rw [h2, if_pos rfl])
  refine ⟨⟨hmono, ?_, rfl, rfl, rfl, by simp, fun b hb _ => heap_alloc_old _ _ hb, ?_⟩, ?_⟩
  · refine h.upd h1 k ⟨cs, ty, esz, true⟩ hgk ?_ hmono (by simp) ?_ (by rw [hk]) ?_
    · intro j b hj hb
      have := hge j b hj hb
      exact ⟨this, by unfold updP; rw [if_neg hj], heap_alloc_old _ _ (h.lt j b this)⟩
    · rw [hk]
      refine ⟨ys, heap_alloc_new _ _, rfl, rfl, fun h0 => ⟨n, hn h0⟩, fun i u hu => ?_⟩
      obtain ⟨u', e1, e2⟩ := hv.2 i u hu
      exact ⟨u', by simpa using e1, e2.mono hmono⟩
    · intro j b hj hb e
      rw [hk] at e
      have := h.lt j b (hge j b hj hb)
      unfold updP at e; rw [if_neg hj] at e
      simp only at e; omega
  · intro j b hb ho
    by_cases hj : j = k
    · subst hj; left; rw [hk]; exact Nat.le_refl _
    · right; exact ⟨j, .inl rfl, ⟨b, hge j b hj hb, ho⟩, by unfold updP; rw [if_neg hj]⟩
  · unfold Hp.al; rw [h2, if_pos rfl]; simp
def boxA (H : Hp) (tgt : Option Nat) (ty : TypeId) (cs : List Value) : Option (Value × Hp) :=
  match H.add tgt (.live ⟨cs, ty, 0, true⟩) with
  | some (k, H') => some (.pointer (some ⟨k, 0, none⟩), H')
  | none => none
theorem boxA_ok (L : Lim) (h : Rel p H w) {cs : List Value} {ty : TypeId} (ys : Array Value) (hv : VL H.al p cs ys.toList) (he : boxA H tgt ty cs = some (v, H')) :
    ∃ p', Stp L p H w p' H' (w.alloc (.cells ys ty)) ∧ VR H'.al p' v (.pointer (some ⟨w.heap.size, 0, none⟩)) := by
  unfold boxA at he
  split at he
  · rename_i k H1 ha
    injection he with he; injection he with e1 e2; subst e1 e2
    obtain ⟨h1, h2⟩ := add_stp (n := 0) L h ha ys hv (fun h0 => by omega)
    refine ⟨_, h1, ?_⟩
    have := VR.ptr (A := H1.al) (p := updP p k ⟨w.heap.size, 0, 0, ys.size⟩) k 0 h2
    have hk : updP p k ⟨w.heap.size, 0, 0, ys.size⟩ k = ⟨w.heap.size, 0, 0, ys.size⟩ := by unfold updP; rw [if_pos rfl]
    rw [hk] at this
    exact this
  · cases he
def rowA (H : Hp) (tgt : Option Nat) (ty : TypeId) (esz n : Nat) (cs : List Value) : Option (Value × Hp) :=
  if cs.length = n * esz ∧ n ≤ maxLen then
    match H.add tgt (.live ⟨cs, ty, esz, true⟩) with
    | some (k, H') => some (.slice (some ⟨k, 0, none⟩) n n, H')
    | none => none
  else none
theorem rowA_ok (L : Lim) (h : Rel p H w) {cs : List Value} {ty : TypeId} {esz n : Nat} (ys : Array Value) (hv : VL H.al p cs ys.toList) (he : rowA H tgt ty esz n cs = some (v, H')) :
    ∃ p', Stp L p H w p' H' (w.alloc (.cells ys ty)) ∧ VR H'.al p' v (.slice (some ⟨w.heap.size, 0, none⟩) n n) := by
  unfold rowA at he
  split at he
  · rename_i hn
    split at he
    · rename_i k H1 ha
      injection he with he; injection he with e1 e2; subst e1 e2
      have hy : ys.size = n * esz := by have := hv.1; simp at this; omega
      obtain ⟨h1, h2⟩ := add_stp (n := n) L h ha ys hv (fun _ => ⟨hn.2, hy⟩)
      refine ⟨_, h1, ?_⟩
      have hk : updP p k ⟨w.heap.size, 0, esz, ys.size⟩ k = ⟨w.heap.size, 0, esz, ys.size⟩ := by unfold updP; rw [if_pos rfl]
      have := VR.slc (A := H1.al) (p := updP p k ⟨w.heap.size, 0, esz, ys.size⟩) k 0 n n n h2 (Nat.le_refl _) (by rw [hk]; simp only; omega)
      rw [hk] at this
      exact this
    · cases he
  · cases he
/-- The operations that make a block, all but append. -/
def byteA : Value → Option UInt8
  | .int .u8 (.ofNat n) => if n < 256 then some (UInt8.ofNat n) else none
  | _ => none
def bytesA : List Value → Option (List UInt8)
  | [] => some []
  | v :: r => match byteA v, bytesA r with
    | some b, some l => some (b :: l)
    | _, _ => none
theorem byteA_ok {v : Value} {b : UInt8} (h : byteA v = some b) : v = .int .u8 (b.toNat : Int) := by
  unfold byteA at h
  split at h
  · rename_i n
    split at h
    · rename_i hn
      injection h with h; subst h
      have : (UInt8.ofNat n).toNat = n := by simp [Nat.mod_eq_of_lt hn]
      rw [this]; rfl
    · cases h
  · cases h
theorem bytesA_ok : ∀ {l : List Value} {bs : List UInt8}, bytesA l = some bs → l.length = bs.length ∧ ∀ (j : Nat) (hj : j < bs.length), l[j]? = some (.int .u8 (bs[j].toNat : Int))
  | [], bs, h => by simp [bytesA] at h; subst h; exact ⟨rfl, fun j hj => absurd hj (by simp)⟩
  | v :: r, bs, h => by
    simp only [bytesA] at h
    split at h
    · rename_i b l h1 h2
      injection h with h; subst h
      obtain ⟨k1, k2⟩ := bytesA_ok h2
      refine ⟨by simp [k1], fun j hj => ?_⟩
      cases j with
      | zero => simp [byteA_ok h1]
      | succ j => simpa using k2 j (by simpa using hj)
    · cases h
/-- The text that a slice of bytes holds. -/
def textA (P : Program) (H : Hp) (e : Operand → Option Value) (s d : TypeId) (x : Operand) : Option (Value × Hp) :=
  match e x, P.underlying s, P.underlying d with
  | some (.slice (some ⟨b, o, none⟩) l c), some (.slice el), some .string => match P.underlying el, H.get b with
    | some (.int .u8), some blk => match bytesA ((blk.cs.drop o).take l) with
      | some bs => if bs.length = l then some (.string ⟨bs.toArray⟩, H) else none
      | none => none
    | _, _ => none
  | _, _, _ => none
theorem textA_ok (h : Rel p H w) (hT : TR H.al p T a.tmps) {s d : TypeId} {x : Operand} (he : textA P H (ev T) s d x = some (v, H')) :
    H' = H ∧ ∃ v', (convert s d (a.eval x)).run P w = .ok v' w ∧ VR H.al p v v' := by
  unfold textA at he
  split at he
  · rename_i b o l c el hx hs hd
    split at he
    · rename_i blk hel hb
      split at he
      · rename_i bs hbs
        split at he
        · rename_i hl
          injection he with he; injection he with e1 e2; subst e1 e2
          obtain ⟨k1, k2⟩ := bytesA_ok hbs
          refine ⟨rfl, _, ?_, .str _⟩
          have hv := ev_ok hT hx
          generalize a.eval x = u at hv
          cases hv with
          | slc _ _ _ _ c' h1 h2 h3 =>
            subst hl
            refine run_convert_bytes_back w s d el _ c' bs hs hel hd fun j hj => ?_
            have g := k2 j hj
            rw [List.getElem?_take_of_lt hj, List.getElem?_drop] at g
            obtain ⟨v', g1, g2⟩ := h.cell b blk hb _ _ g
            rw [g2.sc_eq rfl] at g1
            rw [addr_add, Nat.add_assoc]; exact g1
          | szero _ _ b' o' h1 =>
            have : bs = [] := List.length_eq_zero_iff.1 hl
            subst this
            exact run_convert_bytes_back w s d el _ _ [] hs hel hd fun j hj => absurd hj (by simp)
          | sfor _ _ a' c' h1 h2 =>
            have : bs = [] := List.length_eq_zero_iff.1 hl
            subst this
            cases a' with
            | some a' => exact run_convert_bytes_back w s d el a' c' [] hs hel hd fun j hj => absurd hj (by simp)
            | none => rw [run_convert_bytes_string w s d el none 0 c' hs hel hd]; rfl
        · cases he
      · cases he
    · cases he
  · cases he
def newA (P : Program) (H : Hp) (e : Operand → Option Value) (tgt : Option Nat) (o : Oper) : Option (Value × Hp) :=
  match o.op with
  | .alloc elem => match runP P (zeroValue elem) with
    | some z => if z.cells.toList.all sc then boxA H tgt elem z.cells.toList else none
    | none => none
  | .box elem x => match e x with
    | some v => boxA H tgt elem v.cells.toList
    | none => none
  | .buildSlice t len parts => match P.underlying t, evs e parts.toList with
    | some (.slice elem), some l => match szA P elem, runP P (zeroValue elem) with
      | some n, some z =>
        if len * n ≤ 2 ^ 24 ∧ ((Array.range (len * n)).map (z.cells[· % z.cells.size]!)).toList.all sc then
          (match Instr.fill (fun i => some (i * n, n)) ((Array.range (len * n)).map (z.cells[· % z.cells.size]!)) l with
          | some cs => rowA H tgt elem n len cs.toList
          | none => none) else none
      | _, _ => none
    | _, _ => none
  | .makeSlice t l c => match e l, e c, P.underlying t with
    | some (.int _ l), some (.int _ c), some (.slice elem) => match P.info? elem, runP P (zeroValue elem) with
      | some i, some z =>
        if 0 ≤ l ∧ l = c ∧ c ≤ 1000000 ∧ i.bytes ≤ 1000000 ∧ ((Array.range (c.toNat * i.size)).map (z.cells[· % z.cells.size]!)).toList.all sc then
          rowA H tgt elem i.size c.toNat ((Array.range (c.toNat * i.size)).map (z.cells[· % z.cells.size]!)).toList else none
      | _, _ => none
    | _, _, _ => none
  | .convert s d x => textA P H e s d x
  | _ => none
theorem newA_ok (L : Lim) (h : Rel p H w) (hT : TR H.al p T a.tmps) {o : Oper} (he : newA P H (ev T) tgt o = some (v, H')) :
    ∃ v' p' w', (execOp a.eval o).run P w = .ok (.value v') w' ∧ Stp L p H w p' H' w' ∧ VR H'.al p' v v' := by
  unfold newA at he
  unfold execOp
  split at he
  · rename_i elem ho
    simp only [ho]
    split at he
    · rename_i z hz
      split at he
      · rename_i hs
        obtain ⟨p', h1, h2⟩ := boxA_ok L h z.cells (VL.of_sc hs) he
        refine ⟨_, p', _, ?_, h1, h2⟩
        simp [Instr.alloc, runP_ok hz, newVar, newRow]
      · cases he
    · cases he
  · rename_i elem x ho
    simp only [ho]
    split at he
    · rename_i u hu
      obtain ⟨p', h1, h2⟩ := boxA_ok L h (a.eval x).cells (ev_ok hT hu).cells he
      refine ⟨_, p', _, ?_, h1, h2⟩
      simp [Instr.box, newVar, newRow]
    · cases he
  · rename_i t len parts ho
    simp only [ho]
    split at he
    · rename_i elem l hu hl
      split at he
      · rename_i n z hn hz
        split at he
        · rename_i hc
          split at he
          · rename_i cs hf
            obtain ⟨cs', f1, f2⟩ := fill_ok (evs_ok hT hl) (VL.of_sc (A := H.al) (p := p) hc.2) hf
            obtain ⟨p', h1, h2⟩ := rowA_ok L h cs' f2 he
            have e : (parts.map fun x => (x.1, a.eval x.2)).toList = parts.toList.map fun x => (x.1, a.eval x.2) := by simp
            refine ⟨_, p', _, ?_, h1, h2⟩
            have hgt : ¬ len * n > 2 ^ 24 := by omega
            have hrun : (Instr.buildSlice t len (parts.map fun x => (x.1, a.eval x.2))).run P w = .ok (.slice (some ⟨w.heap.size, 0, none⟩) len len) (w.alloc (.cells cs' elem)) := by
              unfold Instr.buildSlice
              by_cases h0 : len * n = 0
              · have hr0 : ∀ f : Nat → Value, (Array.range (len * n)).map f = #[] := fun f => by rw [h0]; simp
                rw [hr0] at f1
                simp only [Sem.run_bind, run_underlying hu w, Result.andThen_ok, run_sizeOf hn, if_neg hgt, if_pos h0, Sem.run_pure, hr0, e, f1, newRow, run_newObj]
                rfl
              · simp only [Sem.run_bind, run_underlying hu w, Result.andThen_ok, run_sizeOf hn, if_neg hgt, if_neg h0, Sem.run_pure, runP_ok hz w, e, f1, newRow, run_newObj]
                rfl
            rw [Sem.run_bind, hrun]; rfl
          · cases he
        · cases he
      · cases he
    · cases he
  · rename_i t x y ho
    simp only [ho]
    split at he
    · rename_i k1 l k2 c elem hx hy hu
      split at he
      · rename_i i z hi hz
        split at he
        · rename_i hc
          obtain ⟨c1, rfl, c3, c4, c5⟩ := hc
          obtain ⟨p', h1, h2⟩ := rowA_ok L h _ (VL.of_sc (A := H.al) (p := p) c5) he
          refine ⟨_, p', _, ?_, h1, h2⟩
          have hw : IntKind.i64.wrap l = l := by unfold IntKind.wrap; simp [IntKind.bits, IntKind.signed]; omega
          have hb : (i.bytes : Int) * l ≤ 1000000 * 1000000 := Int.mul_le_mul (by omega) c3 c1 (by decide)
          have hlt1 : ¬ l < 0 := by omega
          have hbb : ¬ ((i.bytes : Int) * l > 2 ^ 48) := by omega
          have hsz : szA P elem = some i.size := by simp [szA, hi]
          have hrun : (Instr.makeSlice t (a.eval x) (a.eval y)).run P w = .ok (.slice (some ⟨w.heap.size, 0, none⟩) l.toNat l.toNat) (w.alloc (.cells ((Array.range (l.toNat * i.size)).map (z.cells[· % z.cells.size]!)) elem)) := by
            rw [ev_sc hT hx rfl, ev_sc hT hy rfl]
            unfold Instr.makeSlice
            simp only [Sem.run_bind, run_underlying hu w, Result.andThen_ok, asInt, asIntOf, Sem.run_pure, typeInfo, run_program, hi, hw]
            simp only [hlt1, hbb, decide_false, Bool.or_false, Bool.false_eq_true, if_false, Int.lt_irrefl, gt_iff_lt, Sem.run_bind, run_askRoom, Result.andThen_ok, run_sizeOf hsz, Sem.run_pure]
            by_cases h0 : l.toNat * i.size = 0
            · have hr0 : ∀ f : Nat → Value, (Array.range (l.toNat * i.size)).map f = #[] := fun f => by rw [h0]; simp
              simp only [if_pos h0, hr0, Sem.run_bind, Sem.run_pure, Result.andThen_ok, newRow, run_newObj]
              rfl
            · simp only [if_neg h0, Sem.run_bind, Sem.run_pure, runP_ok hz w, Result.andThen_ok, newRow, run_newObj]
              rfl
          rw [Sem.run_bind, hrun]; rfl
        · cases he
      · cases he
    · cases he
  · rename_i s d x ho
    simp only [ho]
    obtain ⟨e1, v', h1, h2⟩ := textA_ok h hT he
    subst e1
    exact ⟨v', p, w, by simp [h1], Stp.refl h, h2⟩
  · cases he
end
end Go.Proofs.YtigbldheclnmeaaGreatDoor
