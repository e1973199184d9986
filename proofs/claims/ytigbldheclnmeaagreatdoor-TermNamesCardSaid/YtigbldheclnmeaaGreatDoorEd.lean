/- The reckoner's operations on its heap: loads, stores, new blocks. -/
import Derived.Test.YtigbldheclnmeaaGreatDoorEc
namespace Go.Proofs.YtigbldheclnmeaaGreatDoor
open Go.RowKit
set_option linter.unusedSimpArgs false
set_option linter.unusedVariables false

section
variable {P : Program} {A : Nat → Prop} {p p' : Nat → Pla} {H H' : Hp} {w w' : World} {T : List Value} {a : Act} {v : Value} {L : Lim}
/-- One block turned or made, all others as they were. -/
theorem Rel.upd (h : Rel p H w) (hlen : H'.l.length = H'.n) (k : Nat) (bk : Blk) (hk : H'.get k = some bk)
    (hold : ∀ j b, j ≠ k → H'.get j = some b → H.get j = some b ∧ p' j = p j ∧ w'.heap[(p j).blk]? = w.heap[(p j).blk]?)
    (hmono : ∀ b, H.al b → H'.al b ∧ p' b = p b) (hsz : w.heap.size ≤ w'.heap.size)
    (hc : ∃ cs' : Array Value, w'.heap[(p' k).blk]? = some (.cells cs' bk.ty (0, 0)) ∧ (p' k).off = 0 ∧ cs'.size = (p' k).tot ∧ (0 < bk.esz → ∃ cap, cap ≤ maxLen ∧ (p' k).tot = cap * bk.esz) ∧ ∀ (i : Nat) (v : Value), bk.cs[i]? = some v → ∃ v' : Value, cs'[i]? = some v' ∧ VR H'.al p' v v')
    (hez : (p' k).esz = bk.esz) (hap : ∀ j b, j ≠ k → H'.get j = some b → (p' j).blk ≠ (p' k).blk) : Rel p' H' w' := by
  obtain ⟨cs', c1, c2, c3, c5, c4⟩ := hc
  refine ⟨hlen, ?_, ?_, ?_, ?_, ?_⟩
  · intro i b hb m v hv
    by_cases hik : i = k
    · subst hik
      rw [hk] at hb; injection hb with hb; subst hb
      obtain ⟨v', h1, h2⟩ := c4 m v hv
      refine ⟨v', ?_, h2⟩
      rw [cell_of_row w' _ _ cs' _ _ c1, c2, Nat.zero_add]; exact h1
    · obtain ⟨h1, h2, h3⟩ := hold i b hik hb
      obtain ⟨v', h4, h5⟩ := h.cell i b h1 m v hv
      refine ⟨v', ?_, h5.mono hmono⟩
      rw [h2, ← h4]; unfold World.cell?; simp only [h3]
  · intro i b hb ho
    by_cases hik : i = k
    · subst hik
      rw [hk] at hb; injection hb with hb; subst hb
      exact ⟨cs', c1, c2, c3, c5⟩
    · obtain ⟨h1, h2, h3⟩ := hold i b hik hb
      obtain ⟨cs2, d1, d2, d3, d4⟩ := h.own i b h1 ho
      exact ⟨cs2, by rw [h2, h3]; exact d1, by rw [h2]; exact d2, by rw [h2]; exact d3, by rw [h2]; exact d4⟩
  · intro i b hb
    by_cases hik : i = k
    · subst hik
      rw [hk] at hb; injection hb with hb; subst hb
      exact hez
    · obtain ⟨h1, h2, h3⟩ := hold i b hik hb
      rw [h2]; exact h.esz i b h1
  · intro i b hb
    by_cases hik : i = k
    · subst hik
      exact (Array.getElem?_eq_some_iff.1 c1).1
    · obtain ⟨h1, h2, h3⟩ := hold i b hik hb
      rw [h2]; exact Nat.lt_of_lt_of_le (h.lt i b h1) hsz
  · intro i j b c hb hc2 ho e
    by_cases hik : i = k
    · subst hik
      by_cases hjk : j = i
      · exact hjk.symm
      · exact absurd e.symm (hap j c hjk hc2)
    · by_cases hjk : j = k
      · subst hjk; exact absurd e (hap i b hik hb)
      · obtain ⟨h1, h2, h3⟩ := hold i b hik hb
        obtain ⟨h4, h5, h6⟩ := hold j c hjk hc2
        exact h.apart i j b c h1 h4 ho (by rw [← h2, ← h5]; exact e)
theorem cells_ok {g : Nat} : ∀ {cs : List Value} {o : Nat}, (∀ k v, cs[k]? = some v → ∃ v', w.cell? ⟨g, o + k, none⟩ = some v' ∧ VR A p v v') →
    ∃ ys, VL A p cs ys ∧ ∀ j u, ys[j]? = some u → w.cell? ⟨g, o + j, none⟩ = some u
  | [], o, _ => ⟨[], VL.nil, fun j u h => by simp at h⟩
  | v :: r, o, h => by
    obtain ⟨v', h1, h2⟩ := h 0 v rfl
    obtain ⟨ys, h3, h4⟩ := cells_ok (cs := r) (o := o + 1) (fun k u hu => by
      have := h (k + 1) u (by simpa using hu)
      rwa [show o + (k + 1) = o + 1 + k by omega] at this)
    refine ⟨v' :: ys, h3.cons h2, fun j u hu => ?_⟩
    cases j with
    | zero => simp at hu; subst hu; exact h1
    | succ j => rw [show o + (j + 1) = o + 1 + j by omega]; exact h4 j u (by simpa using hu)
/-- A load: the block, the value. -/
def loadA (P : Program) (H : Hp) (e : Operand → Option Value) (t : TypeId) (x : Operand) : Option (Nat × Value) :=
  match e x with
  | some (.pointer (some ⟨b, o, none⟩)) => match H.get b, isAggA P t, szA P t with
    | some blk, some true, some n => if ((blk.cs.drop o).take n).length = n then some (b, .agg ((blk.cs.drop o).take n).toArray) else none
    | some blk, some false, _ => match blk.cs[o]? with
      | some v => some (b, v)
      | none => none
    | _, _, _ => none
  | _ => none
theorem loadA_at (h : Rel p H w) {b o : Nat} {blk : Blk} (hg : H.get b = some blk) {t : TypeId} {b' : Nat}
    (he : (match isAggA P t, szA P t with
      | some true, some n => if ((blk.cs.drop o).take n).length = n then some (b, Value.agg ((blk.cs.drop o).take n).toArray) else none
      | some false, _ => (match blk.cs[o]? with
        | some v => some (b, v)
        | none => none)
      | _, _ => none) = some (b', v)) :
    b' = b ∧ ∃ v', VR H.al p v v' ∧ ∀ w2 : World, (∀ off, w2.cell? ⟨(p b).blk, off, none⟩ = w.cell? ⟨(p b).blk, off, none⟩) → (loadVar t ⟨(p b).blk, (p b).off + o, none⟩).run P w2 = .ok v' w2 := by
  split at he
  · rename_i n hag hn
    split at he
    · rename_i hl
      injection he with he; injection he with e1 e2; subst e1 e2
      obtain ⟨ys, h1, h2⟩ := cells_ok (A := H.al) (p := p) (w := w) (g := (p b).blk) (o := (p b).off + o) (cs := (blk.cs.drop o).take n) (fun k u hu => by
        simp only [List.getElem?_take, List.getElem?_drop] at hu
        split at hu
        · have := h.cell b blk hg (o + k) u hu
          rwa [← Nat.add_assoc] at this
        · cases hu)
      refine ⟨rfl, .agg ys.toArray, h1.agg, fun w2 h3 => ?_⟩
      have hy : ys.length = n := by rw [← h1.1]; exact hl
      have := run_loadCells_list (P := P) w2 ⟨(p b).blk, (p b).off + o, none⟩ ys (fun j u hu => by rw [addr_add, h3]; exact h2 j u hu)
      rw [hy] at this
      simp [loadVar, run_isAgg hag, run_sizeOf hn, this]
    · cases he
  · rename_i hag
    split at he
    · rename_i u hu
      injection he with he; injection he with e1 e2; subst e1 e2
      obtain ⟨v', h1, h2⟩ := h.cell b blk hg o u hu
      exact ⟨rfl, v', h2, fun w2 h3 => by simp [loadVar, run_isAgg hag, h3, h1]⟩
    · cases he
  · cases he
theorem loadA_ok (h : Rel p H w) (hT : TR H.al p T a.tmps) {t : TypeId} {x : Operand} {b : Nat} (he : loadA P H (ev T) t x = some (b, v)) :
    (∃ blk, H.get b = some blk) ∧ ∃ v', VR H.al p v v' ∧ ∀ w2 : World, (∀ off, w2.cell? ⟨(p b).blk, off, none⟩ = w.cell? ⟨(p b).blk, off, none⟩) → (Instr.loadAt t (a.eval x)).run P w2 = .ok v' w2 := by
  unfold loadA at he
  split at he
  · rename_i b0 o hx
    have hv := ev_ok hT hx
    generalize a.eval x = u at hv
    cases hv with
    | ptr b0 o hA =>
      cases hg : H.get b0 with
      | none => rw [hg] at he; simp at he
      | some blk =>
        have : b = b0 ∧ _ := loadA_at (P := P) (t := t) (o := o) (b' := b) (v := v) h hg (by
          rw [hg] at he
          rw [← he]
          cases isAggA P t with
          | none => rfl
          | some q => cases q <;> cases szA P t <;> rfl)
        obtain ⟨rfl, v', h1, h2⟩ := this
        exact ⟨⟨blk, hg⟩, v', h1, fun w2 h3 => by simp [Instr.loadAt, Instr.sureAddr, h2 w2 h3]⟩
  · cases he
theorem splice_get {l vs : List Value} {o k : Nat} (ho : o + vs.length ≤ l.length) : (l.take o ++ vs ++ l.drop (o + vs.length))[k]? = if k < o then l[k]? else if k < o + vs.length then vs[k - o]? else l[k]? := by
  have hlo : (l.take o).length = o := by simp; omega
  by_cases h1 : k < o
  · rw [if_pos h1, List.append_assoc, List.getElem?_append_left (by omega), List.getElem?_take, if_pos h1]
  · rw [if_neg h1]
    by_cases h2 : k < o + vs.length
    · rw [if_pos h2, List.append_assoc, List.getElem?_append_right (by omega), List.getElem?_append_left (by omega), hlo]
    · rw [if_neg h2, List.getElem?_append_right (by simp; omega), List.getElem?_drop]
      congr 1
      simp; omega
/-- A store. -/
def storeA (P : Program) (L : Lim) (H : Hp) (e : Operand → Option Value) (t : TypeId) (x y : Operand) : Option Hp :=
  match e x, e y, szA P t with
  | some (.pointer (some ⟨b, o, none⟩)), some v, some n => match H.get b with
    | some blk => if blk.own ∧ L.ok b ∧ v.cells.toList.length = n ∧ o + n ≤ blk.cs.length ∧ v.cells.toList.all (·.oneCell') then
        some (H.put b (.live { blk with cs := blk.cs.take o ++ v.cells.toList ++ blk.cs.drop (o + v.cells.toList.length) })) else none
    | none => none
  | _, _, _ => none
theorem storeA_ok (h : Rel p H w) (hT : TR H.al p T a.tmps) {t : TypeId} {x y : Operand} (he : storeA P L H (ev T) t x y = some H') :
    ∃ w', (Instr.storeAt t (a.eval x) (a.eval y)).run P w = .ok () w' ∧ Stp L p H w p H' w' := by
  unfold storeA at he
  split at he
  · rename_i b o v n hx hy hn
    have hv := ev_ok hT hx
    have hvy := ev_ok hT hy
    generalize a.eval x = u at hv
    generalize a.eval y = uy at hvy
    cases hv with
    | ptr _ _ hA =>
    split at he
    · rename_i blk hg
      split at he
      · rename_i hc
        obtain ⟨c1, c2, c3, c4, c5⟩ := hc
        injection he with he
        have hbn := Hp.lt_of_ent (by rw [Hp.ent_of_get hg]; simp : H.ent b ≠ .fresh)
        obtain ⟨cs', d1, d2, d3, d4⟩ := h.own b blk hg c1
        have hcs := hvy.cells
        have hcl := hcs.1
        have hus : uy.cells.toList.length = uy.cells.size := by simp
        have ocs : blk.cs.length ≤ cs'.size := by
          rcases Nat.lt_or_ge cs'.size blk.cs.length with hlt | hge
          · obtain ⟨v', e1, _⟩ := h.cell b blk hg cs'.size blk.cs[cs'.size] (by simp [hlt])
            rw [cell_of_row w _ _ cs' _ _ d1, d2] at e1
            simp at e1
          · exact hge
        have hst := run_storeCells_at P (p b).blk o blk.ty uy.cells.toList 0 cs' w d1 (by simp only [Nat.add_zero]; omega) (hcs.one c5)
        have hget : ∀ j, H'.ent j = if j = b then .live { blk with cs := blk.cs.take o ++ v.cells.toList ++ blk.cs.drop (o + v.cells.toList.length) } else H.ent j := fun j => by rw [← he]; exact Hp.ent_put h.len hbn
        have hal : ∀ j, H'.al j ↔ H.al j := fun j => by
          unfold Hp.al; rw [hget]
          by_cases hj : j = b
          · subst hj; rw [if_pos rfl, Hp.ent_of_get hg]; simp
          · rw [if_neg hj]
        have hge : ∀ j c, j ≠ b → H'.get j = some c → H.get j = some c := fun j c hj hc => by
          have := Hp.ent_of_get hc; rw [hget, if_neg hj] at this; exact Hp.get_of_ent this
        have hge2 : ∀ j c, H'.get j = some c → c.own = true → ∃ b, H.get j = some b ∧ b.own = true := fun j c hc ho => by
          by_cases hj : j = b
          · subst hj; exact ⟨blk, hg, c1⟩
          · exact ⟨c, hge j c hj hc, ho⟩
        have hrel : Rel p H' (w.setRow (p b).blk (cs'.toList.take o ++ uy.cells.toList ++ cs'.toList.drop (o + uy.cells.toList.length)).toArray) := by
          refine h.upd (p' := p) (H' := H') (by rw [← he]; simp [Hp.put, h.len]) b { blk with cs := blk.cs.take o ++ v.cells.toList ++ blk.cs.drop (o + v.cells.toList.length) } (Hp.get_of_ent (by rw [hget, if_pos rfl])) ?_ (fun j hj => ⟨(hal j).2 hj, rfl⟩) (by simp) ?_ (h.esz b blk hg) ?_
          · intro j c hj hc
            have hc1 := hge j c hj hc
            refine ⟨hc1, rfl, setRow_other _ _ _ _ fun e => hj (h.apart b j blk c hg hc1 c1 e.symm).symm⟩
          · refine ⟨_, setRow_heap _ _ _ _ _ _ d1, d2, by simp; omega, d4, fun i u hu => ?_⟩
            simp only at hu
            rw [splice_get (by omega)] at hu
            rw [List.getElem?_toArray, splice_get (by simp; omega)]
            split at hu
            · rename_i hi
              rw [if_pos hi]
              obtain ⟨u', e1, e2⟩ := h.cell b blk hg i u hu
              rw [cell_of_row w _ _ cs' _ _ d1, d2, Nat.zero_add] at e1
              exact ⟨u', by simpa using e1, e2.mono fun j hj => ⟨(hal j).2 hj, rfl⟩⟩
            · rename_i hi
              rw [if_neg hi]
              split at hu
              · rename_i hi2
                rw [if_pos (by omega)]
                obtain ⟨u', e1, e2⟩ := hcs.2 _ u hu
                exact ⟨u', e1, e2.mono fun j hj => ⟨(hal j).2 hj, rfl⟩⟩
              · rename_i hi2
                rw [if_neg (by omega)]
                obtain ⟨u', e1, e2⟩ := h.cell b blk hg i u hu
                rw [cell_of_row w _ _ cs' _ _ d1, d2, Nat.zero_add] at e1
                exact ⟨u', by simpa using e1, e2.mono fun j hj => ⟨(hal j).2 hj, rfl⟩⟩
          · intro j c hj hc e
            exact hj (h.apart b j blk c hg (hge j c hj hc) c1 e.symm).symm
        refine ⟨_, ?_, fun j hj => ⟨(hal j).2 hj, rfl⟩, hrel, rfl, rfl, rfl, by simp, fun k hk hn => setRow_other _ _ _ _ (fun e => hn b ⟨blk, hg, c1, c2⟩ e.symm), fun j c hc ho => .inr ⟨j, .inl rfl, hge2 j c hc ho, rfl⟩⟩
        have hsz : uy.cells.size = n := by have := hcl; simp at this; rw [← this]; simpa using c3
        rw [d2]
        simp only [Nat.zero_add, Nat.add_zero] at hst ⊢
        simp [Instr.storeAt, Instr.sureAddr, storeVar, run_sizeOf hn, hsz, hst]
      · cases he
    · cases he
  · cases he
end
end Go.Proofs.YtigbldheclnmeaaGreatDoor
