/- The reckoner's append: a new block each time; what was appended to is gone. -/
import Derived.Test.YtigbldheclnmeaaGreatDoorEe
namespace Go.Proofs.YtigbldheclnmeaaGreatDoor
open Go.RowKit
set_option linter.unusedSimpArgs false
set_option linter.unusedVariables false

section
variable {P : Program} {p p' : Nat → Pla} {H H' H1 : Hp} {w w' : World} {T : List Value} {a : Act} {v v' : Value} {L : Lim} {tgt : Option Nat} {k n size : Nat} {row : Option Nat} {e : TypeId} {cs ys : List Value} {D : Nat → Prop}
theorem append_fin (h : Rel p H w) (hlen : H1.l.length = H1.n) (hD : ∀ j, D j → ∃ blk, H.get j = some blk ∧ blk.own = true ∧ L.ok j = true ∧ row = some (p j).blk)
    (hent : ∀ j, ¬ D j → H1.ent j = H.ent j) (hent2 : ∀ j, D j → H1.ent j = .dead) (hrow : row = none ∨ ∃ j, D j)
    (ha : H1.add tgt (.live ⟨cs, e, size, true⟩) = some (k, H')) (hown : w'.ownsRow 0 e size v' n ys) (hn : 0 < n) (hv : VL H.al p cs ys) (hgrow : w.grownBy w' row)
    (hv' : v'.ownBlock = row ∨ v'.ownBlock = some w.heap.size) : ∃ p', Stp L p H w p' H' w' ∧ VR H'.al p' (.slice (some ⟨k, 0, none⟩) n n) v' := by
  obtain ⟨h1, h2, h3⟩ := Hp.add_ok hlen ha
  rcases hown.2 with ⟨_, h0⟩ | ⟨g, cap, cur, rfl, _, hg, hnc, hcm, hcs, htk⟩
  · omega
  have hob : (Value.slice (some ⟨g, 0, none⟩) n cap).ownBlock = some g := rfl
  rw [hob] at hv'
  have hkD : ¬ D k := fun hd => by rw [hent2 k hd] at h3; cases h3
  have hkf : H.ent k = .fresh := by rw [← hent k hkD]; exact h3
  have hne : ∀ b, H.al b → b ≠ k := fun b hb e => hb (e ▸ hkf)
  have hmono : ∀ b, H.al b → H'.al b ∧ updP p k ⟨g, 0, size, cap * size⟩ b = p b := fun b hb => by
    have := hne b hb
    refine ⟨?_, by unfold updP; rw [if_neg this]⟩
    unfold Hp.al; rw [h2, if_neg this]
    by_cases hd : D b
    · rw [hent2 b hd]; simp
    · rw [hent b hd]; exact hb
  have hge : ∀ j c, j ≠ k → H'.get j = some c → H.get j = some c ∧ ¬ D j := fun j c hj hc => by
    have := Hp.ent_of_get hc; rw [h2, if_neg hj] at this
    have hd : ¬ D j := fun hd => by rw [hent2 j hd] at this; cases this
    rw [hent j hd] at this
    exact ⟨Hp.get_of_ent this, hd⟩
  have hfar : ∀ j c, j ≠ k → H'.get j = some c → some (p j).blk ≠ row := fun j c hj hc hr => by
    obtain ⟨h4, h5⟩ := hge j c hj hc
    rcases hrow with h6 | ⟨i, h6⟩
    · rw [h6] at hr; cases hr
    · obtain ⟨blk, g1, g2, g3, g4⟩ := hD i h6
      rw [g4] at hr
      injection hr with hr
      have := h.apart i j blk c g1 h4 g2 hr.symm
      exact h5 (this ▸ h6)
  have hk : updP p k ⟨g, 0, size, cap * size⟩ k = ⟨g, 0, size, cap * size⟩ := by unfold updP; rw [if_pos rfl]
  have hgk : H'.get k = some ⟨cs, e, size, true⟩ := Hp.get_of_ent (by rw [h2, if_pos rfl])
  have halk : H'.al k := Hp.al_of_get hgk
  refine ⟨updP p k ⟨g, 0, size, cap * size⟩, ⟨hmono, ?_, hgrow.os, hgrow.tape, hgrow.output, hgrow.size, fun b hb hw => hgrow.block b hb fun hr => ?_, ?_⟩, ?_⟩
  · refine h.upd h1 k ⟨cs, e, size, true⟩ hgk ?_ hmono hgrow.size ?_ (by rw [hk]) ?_
    · intro j b hj hb
      have h4 := (hge j b hj hb).1
      exact ⟨h4, by unfold updP; rw [if_neg hj], hgrow.block _ (h.lt j b h4) (hfar j b hj hb)⟩
    · rw [hk]
      refine ⟨cur, hg, rfl, hcs, fun _ => ⟨cap, hcm, rfl⟩, fun i u hu => ?_⟩
      obtain ⟨u', e1, e2⟩ := hv.2 i u hu
      refine ⟨u', ?_, e2.mono hmono⟩
      rw [← htk, List.getElem?_take] at e1
      split at e1
      · simpa using e1
      · cases e1
    · intro j b hj hb e1
      rw [hk] at e1
      unfold updP at e1; rw [if_neg hj] at e1
      simp only at e1
      rcases hv' with h6 | h6
      · exact hfar j b hj hb (by rw [e1]; exact h6)
      · injection h6 with h6
        have := h.lt j b (hge j b hj hb).1
        omega
  · rcases hrow with h6 | ⟨i, h6⟩
    · rw [h6] at hr; cases hr
    · obtain ⟨blk, g1, g2, g3, g4⟩ := hD i h6
      rw [g4] at hr; injection hr with hr
      exact hw i ⟨blk, g1, g2, g3⟩ hr.symm
  · intro j b hb ho
    by_cases hj : j = k
    · subst hj
      rw [hk]
      rcases hv' with h6 | h6
      · right
        rcases hrow with h7 | ⟨i, h7⟩
        · rw [h7] at h6; cases h6
        · obtain ⟨blk, g1, g2, g3, g4⟩ := hD i h7
          rw [g4] at h6; injection h6 with h6
          exact ⟨i, .inr g3, ⟨blk, g1, g2⟩, h6.symm⟩
      · left; injection h6 with h6; exact Nat.le_of_eq h6.symm
    · right; exact ⟨j, .inl rfl, ⟨b, (hge j b hj hb).1, ho⟩, by unfold updP; rw [if_neg hj]⟩
  · have := VR.slc (A := H'.al) (p := updP p k ⟨g, 0, size, cap * size⟩) k 0 n n cap halk hnc (by rw [hk]; simp)
    rw [hk] at this
    exact this
theorem append_zero {t ty : TypeId} {i : TypeInfo} {z : Value} {A B : Addr} {m c : Nat} (ht : P.underlying t = some (.slice e)) (hi : P.info? e = some i) (hz : i.zero = some z) (hm : 0 < m) (hb : m * i.bytes ≤ 140737488355328) :
    (Builtin.append_ #[t, t] ty #[.slice (some A) 0 0, .slice (some B) m c]).run P w = (Builtin.append_ #[t, t] ty #[.slice none 0 0, .slice (some B) m c]).run P w := by
  have hne : ¬ m ≤ 0 := by omega
  have hm0 : ¬ m = 0 := by omega
  have hn : Builtin.nextslicecap m 0 = m := by unfold Builtin.nextslicecap; simp; omega
  have hbb : ¬ (m * i.bytes > 2 ^ 48) := by omega
  unfold Builtin.append_
  simp [run_underlying ht, sizeOf, typeInfo, hi, Builtin.lenOf, hne, hm0, hn, hbb, Builtin.firstCells, loadCells, loadCellsFrom]
/-- An append: what the slice holds now, and the heap. -/
def appendA (P : Program) (L : Lim) (H : Hp) (e : Operand → Option Value) (tgt : Option Nat) (ats : Array TypeId) (args : Array Operand) : Option (Value × Hp) :=
  match ats.toList, args.toList with
  | [t, t'], [s, x] => if t' = t then (match e s, e x, P.underlying t with
    | some (.slice sb l c), some (.slice xb m xc), some (.slice e) => match P.info? e with
      | some i => match i.zero with
        | some z =>
          if m = 0 then (if l ≤ c then some (.slice sb l c, H) else none) else
          match xb with
          | some ⟨b2, o2, none⟩ => match H.get b2 with
            | some blk2 =>
              if ((blk2.cs.drop o2).take (m * i.size)).length = m * i.size ∧ ((blk2.cs.drop o2).take (m * i.size)).all (·.oneCell') ∧ 0 < i.size ∧ z.cells.size = i.size ∧ l + m ≤ maxLen ∧ (l + m) * i.bytes ≤ 140737488355328 then
                match sb with
                | none => if l = 0 ∧ c = 0 then (match H.add tgt (.live ⟨(blk2.cs.drop o2).take (m * i.size), e, i.size, true⟩) with
                  | some (k, H') => some (.slice (some ⟨k, 0, none⟩) m m, H')
                  | none => none) else none
                | some ⟨b, 0, none⟩ => match H.get b with
                  | some blk => if blk.own ∧ L.ok b ∧ blk.ty = e ∧ blk.esz = i.size ∧ l ≤ c ∧ l * i.size ≤ blk.cs.length ∧ b < H.n then
                      (match (H.put b .dead).add tgt (.live ⟨blk.cs.take (l * i.size) ++ (blk2.cs.drop o2).take (m * i.size), e, i.size, true⟩) with
                      | some (k, H') => some (.slice (some ⟨k, 0, none⟩) (l + m) (l + m), H')
                      | none => none) else none
                  | none => none
                | _ => none
              else none
            | none => none
          | _ => none
        | none => none
      | none => none
    | _, _, _ => none) else none
  | _, _ => none
theorem append_none {t ty : TypeId} {i : TypeInfo} {z : Value} {A B : Option Addr} {l c c2 : Nat} (ht : P.underlying t = some (.slice e)) (hi : P.info? e = some i) (hz : i.zero = some z) (hl : l ≤ c) :
    (Builtin.append_ #[t, t] ty #[.slice A l c, .slice B 0 c2]).run P w = .ok (.slice A l c) w := by
  unfold Builtin.append_
  cases A <;> cases B <;> simp [run_underlying ht, sizeOf, typeInfo, hi, Builtin.lenOf, hl, Builtin.firstCells, loadCells, loadCellsFrom, storeCells]
theorem appendA_ok (h : Rel p H w) (hT : TR H.al p T a.tmps) {ats : Array TypeId} {args : Array Operand} {ty : TypeId} (he : appendA P L H (ev T) tgt ats args = some (v, H')) :
    ∃ v' p' w', (Builtin.append_ ats ty (args.map a.eval)).run P w = .ok v' w' ∧ Stp L p H w p' H' w' ∧ VR H'.al p' v v' := by
  unfold appendA at he
  split at he
  · rename_i t t' s x hats hargs
    have hats' : ats = #[t, t'] := by rw [← Array.toArray_toList (xs := ats), hats]
    have hargs' : args = #[s, x] := by rw [← Array.toArray_toList (xs := args), hargs]
    subst hats' hargs'
    clear hats hargs
    split at he
    · rename_i htt; subst htt
      split at he
      · rename_i sb l c xb m xc e hs hx hu
        have vs := ev_ok hT hs
        have vx := ev_ok hT hx
        simp only [List.map_toArray, List.map_cons, List.map_nil]
        generalize a.eval s = us at vs
        generalize a.eval x = ux at vx
        split at he
        · rename_i i hi
          split at he
          · rename_i z hz
            split at he
            · rename_i hm; subst hm
              split at he
              · rename_i hlc
                injection he with he; injection he with e1 e2; subst e1 e2
                refine ⟨us, p, w, ?_, Stp.refl h, vs⟩
                cases vs with
                | snil => cases vx <;> exact append_none hu hi hz (by omega)
                | slc b o l c c' hA hc ht => cases vx <;> exact append_none hu hi hz (by omega)
                | sfor b o a' c' hA hf => cases vx <;> exact append_none hu hi hz (by omega)
                | szero b o b' o' hA => cases vx <;> exact append_none hu hi hz (by omega)
              · cases he
            · rename_i hm
              split at he
              · rename_i b2 o2
                split at he
                · rename_i blk2 hg2
                  split at he
                  · rename_i hc
                    obtain ⟨c1, c2, c3, c4, c5, c6⟩ := hc
                    cases vx with
                    | szero => exact absurd rfl hm
                    | sfor => exact absurd rfl hm
                    | slc _ _ _ _ xc' hA2 hcx htx =>
                    obtain ⟨news, n1, n2⟩ := cells_ok (A := H.al) (p := p) (w := w) (g := (p b2).blk) (o := (p b2).off + o2) (cs := (blk2.cs.drop o2).take (m * i.size)) (fun k u hu => by
                      simp only [List.getElem?_take, List.getElem?_drop] at hu
                      split at hu
                      · have := h.cell b2 blk2 hg2 (o2 + k) u hu
                        rwa [← Nat.add_assoc] at this
                      · cases hu)
                    have hnl : news.length = m * i.size := by rw [← n1.1]; exact c1
                    have hn1 := n1.one c2
                    have hn2 : ∀ j u, news[j]? = some u → w.cell? ((⟨(p b2).blk, (p b2).off + o2, none⟩ : Addr).add j) = some u := fun j u hu => by rw [addr_add]; exact n2 j u hu
                    have hnil := run_append_own_at (P := P) w 0 t' ty e i z i.size i.bytes hu hi hz rfl rfl c4 c3 (.slice none 0 0) 0 [] (World.ownsRow_nil w 0 e i.size) ⟨(p b2).blk, (p b2).off + o2, none⟩ m xc' news hnl hn2 hn1 (by omega) (by rw [Nat.zero_add]; exact Nat.le_trans (Nat.mul_le_mul_right _ (Nat.le_add_left _ _)) c6) (Nat.zero_le _)
                    simp only [Nat.zero_add, List.nil_append] at hnil
                    split at he
                    · split at he
                      · rename_i hlc
                        split at he
                        · rename_i k H1 hadd
                          injection he with he; injection he with e1 e2; subst e1 e2
                          obtain ⟨v', w', r1, r2, r3, _, r5⟩ := hnil
                          obtain ⟨p', q1, q2⟩ := append_fin (L := L) (D := fun _ => False) (row := none) h h.len (fun _ hf => hf.elim) (fun _ _ => rfl) (fun _ hf => hf.elim) (.inl rfl) hadd r2 (by omega) n1 r3 r5
                          cases vs with
                          | snil => exact ⟨v', p', w', r1, q1, q2⟩
                        · cases he
                      · cases he
                    · rename_i b
                      split at he
                      · rename_i blk hg
                        split at he
                        · rename_i hcc
                          obtain ⟨d1, d2, d3, d4, d5, d6, d7⟩ := hcc
                          split at he
                          · rename_i k H1 hadd
                            injection he with he; injection he with e1 e2; subst e1 e2
                            obtain ⟨cur, g1, g2, g3, g4⟩ := h.own b blk hg d1
                            have hcap : ∀ c', c' * blk.esz = (p b).tot → 0 < blk.esz → c' ≤ maxLen := fun c' q3 q0 => by
                              obtain ⟨cap, q1, q2⟩ := g4 q0
                              have q4 := Nat.eq_of_mul_eq_mul_right q0 (q3.trans q2)
                              rw [q4]; exact q1
                            clear g4
                            have hput : ∀ j, (H.put b .dead).ent j = if j = b then .dead else H.ent j := fun j => Hp.ent_put h.len d7
                            have hcl : (H.put b .dead).l.length = (H.put b .dead).n := by simp [Hp.put, h.len]
                            have hz0 := h.esz b blk hg
                            obtain ⟨olds, o1, o3⟩ := cells_ok (A := H.al) (p := p) (w := w) (g := (p b).blk) (o := 0) (cs := blk.cs.take (l * i.size)) (fun k u hu => by
                              simp only [List.getElem?_take] at hu
                              split at hu
                              · have := h.cell b blk hg k u hu
                                rwa [g2] at this
                              · cases hu)
                            have hol : olds.length = l * i.size := by rw [← o1.1]; simp; omega
                            have fin : ∀ v' w', w'.ownsRow 0 e i.size v' (l + m) (olds ++ news) → w.grownBy w' (some (p b).blk) → (v'.ownBlock = some (p b).blk ∨ v'.ownBlock = some w.heap.size) → ∃ p', Stp L p H w p' H1 w' ∧ VR H1.al p' (.slice (some ⟨k, 0, none⟩) (l + m) (l + m)) v' := by
                              intro v' w' r2 r3 r5
                              exact append_fin (L := L) (D := fun j => j = b) (row := some (p b).blk) h hcl (fun j hj => by subst hj; exact ⟨blk, hg, d1, d2, rfl⟩) (fun j hj => by rw [hput, if_neg hj]) (fun j hj => by rw [hput, if_pos hj]) (.inr ⟨b, rfl⟩) hadd r2 (by omega) (o1.append n1) r3 r5
                            cases vs with
                            | sfor _ _ a' c' hA hf => exfalso; omega
                            | slc _ _ _ _ c' hA hc ht =>
                              have hmm : c' ≤ maxLen := hcap c' (by rw [g2, hz0] at ht; omega) (by omega)
                              have hcur : cur.size = c' * i.size := by rw [g3, ← ht, g2, hz0, d4]; omega
                              have how : w.ownsRow 0 e i.size (.slice (some ⟨(p b).blk, (p b).off + 0, none⟩) l c') l olds := by
                                refine ⟨hol, .inr ⟨(p b).blk, c', cur, by rw [g2], Nat.zero_le _, by rw [← d3]; exact g1, by omega, hmm, hcur, ?_⟩⟩
                                apply List.ext_getElem?
                                intro j
                                by_cases hj : j < l * i.size
                                · have hjo : j < olds.length := by omega
                                  have := o3 j olds[j] (by simp [hjo])
                                  rw [Nat.zero_add, cell_of_row w _ _ cur _ _ g1] at this
                                  rw [List.getElem?_take, if_pos hj, List.getElem?_eq_getElem hjo]
                                  simpa using this
                                · rw [List.getElem?_take, if_neg hj, List.getElem?_eq_none (by omega)]
                              obtain ⟨v', w', r1, r2, r3, _, r5⟩ := run_append_own_at (P := P) w 0 t' ty e i z i.size i.bytes hu hi hz rfl rfl c4 c3 _ l olds how ⟨(p b2).blk, (p b2).off + o2, none⟩ m xc' news hnl hn2 hn1 c5 c6 (Nat.zero_le _)
                              obtain ⟨p', q1, q2⟩ := fin v' w' r2 r3 r5
                              exact ⟨v', p', w', r1, q1, q2⟩
                            | szero _ _ b' o' hA =>
                              obtain ⟨v', w', r1, r2, r3, _, r5⟩ := hnil
                              have ho : olds = [] := List.eq_nil_of_length_eq_zero (by omega)
                              have hr3 : w.grownBy w' (some (p b).blk) := ⟨r3.os, r3.tape, r3.output, r3.size, fun k hk _ => r3.block k hk (by simp [Value.ownBlock])⟩
                              have hr5 : v'.ownBlock = some w.heap.size := by
                                rcases r5 with h6 | h6
                                · obtain ⟨g, cap, hv, _⟩ := r2.form (by omega)
                                  rw [hv] at h6; cases h6
                                · exact h6
                              obtain ⟨p', q1, q2⟩ := fin v' w' (by rw [ho, Nat.zero_add]; exact r2) hr3 (.inr hr5)
                              refine ⟨v', p', w', ?_, q1, q2⟩
                              rw [append_zero hu hi hz (by omega) (by rw [Nat.zero_add] at c6; exact c6)]
                              exact r1
                          · cases he
                        · cases he
                      · cases he
                    · cases he
                  · cases he
                · cases he
              · cases he
          · cases he
        · cases he
      · cases he
    · cases he
  · cases he
end
end Go.Proofs.YtigbldheclnmeaaGreatDoor
