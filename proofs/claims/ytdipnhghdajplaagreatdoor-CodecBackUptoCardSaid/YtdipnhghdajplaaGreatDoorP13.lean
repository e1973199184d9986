/- Trees that the reference's Parse gives, in the reckoner's heap. -/
import Derived.Test.YtdipnhghdajplaaGreatDoorP08
import Derived.Test.YtdipnhghdajplaaGreatDoorP12
namespace Go.Proofs.YtdipnhghdajplaaGreatDoor
open Go.RowKit
set_option linter.unusedSimpArgs false
set_option linter.unusedVariables false
mutual
def impT (d : Nat) : T → Hp → Hp × List Value
 | .node k s n [], H => (H, [.int .i64 k, .string s, .int .i64 n, .slice (some ⟨d, 0, none⟩) 0 0])
 | .node k s n (t :: r), H =>
   let x := impL d (t :: r) H
   (x.1.push (.live ⟨x.2, 144, 4, false⟩), [.int .i64 k, .string s, .int .i64 n, .slice (some ⟨x.1.n, 0, none⟩) (r.length + 1) (r.length + 1)])
def impL (d : Nat) : List T → Hp → Hp × List Value
 | [], H => (H, [])
 | t :: r, H =>
   let x := impT d t H
   let y := impL d r x.1
   (y.1, x.2 ++ y.2)
end
structure Imp (F : Nat → Prop) (w : World) (p : Nat → Pla) (H : Hp) (p' : Nat → Pla) (H' : Hp) : Prop where
 same : ∀ b, H.al b → H'.al b ∧ p' b = p b
 rel : Rel p' H' w
 new : ∀ j b, H'.get j = some b → H.get j = some b ∨ (b.own = false ∧ F (p' j).blk)
section
variable {F : Nat → Prop} {w : World} {p p' p'' : Nat → Pla} {H H' H'' : Hp}
theorem Imp.refl (h : Rel p H w) : Imp F w p H p H := ⟨fun _ h => ⟨h, rfl⟩, h, fun j b h => .inl h⟩
theorem Imp.trans (h : Imp F w p H p' H') (k : Imp F w p' H' p'' H'') : Imp F w p H p'' H'' := by
 refine ⟨fun b hb => ?_, k.rel, fun j b hb => ?_⟩
 · have h1 := h.same b hb
   have h2 := k.same b h1.1
   exact ⟨h2.1, h2.2.trans h1.2⟩
 · rcases k.new j b hb with h1 | h1
   · rcases h.new j b h1 with h2 | ⟨h2, h3⟩
     · exact .inl h2
     · refine .inr ⟨h2, ?_⟩
       rw [(k.same j (Hp.al_of_get h1)).2]; exact h3
   · exact .inr h1
def Outs (F : Nat → Prop) (p : Nat → Pla) (H : Hp) : Prop := ∀ j b, H.get j = some b → b.own = true → ¬ F (p j).blk
theorem Imp.out (h : Imp F w p H p' H') (k : Outs F p H) : Outs F p' H' := fun j b hb ho hf => by
 rcases h.new j b hb with h1 | ⟨h1, _⟩
 · exact k j b h1 ho (by rw [← (h.same j (Hp.al_of_get h1)).2]; exact hf)
 · rw [ho] at h1; cases h1
theorem Imp.push (h : Rel p H w) (k : Outs F p H) {cs : List Value} {ty : TypeId} {esz : Nat} {q : Pla} (hF : F q.blk) (hlt : q.blk < w.heap.size) (hq : q.esz = esz)
   (hc : ∀ i v, cs[i]? = some v → ∃ v', w.cell? ⟨q.blk, q.off + i, none⟩ = some v' ∧ VR H.al p v v') : Imp F w p H (updP p H.n q) (H.push (.live ⟨cs, ty, esz, false⟩)) := by
 have he : ∀ j, (H.push (.live ⟨cs, ty, esz, false⟩)).ent j = if j = H.n then .live ⟨cs, ty, esz, false⟩ else H.ent j := fun j => Hp.ent_push
 have hfr : H.ent H.n = .fresh := by unfold Hp.ent; rw [if_neg (by omega)]
 have hge : ∀ j b, j ≠ H.n → (H.push (.live ⟨cs, ty, esz, false⟩)).get j = some b → H.get j = some b := fun j b hj hb => by
   have := Hp.ent_of_get hb; rw [he, if_neg hj] at this; exact Hp.get_of_ent this
 have hgn : ∀ b, (H.push (.live ⟨cs, ty, esz, false⟩)).get H.n = some b → b = ⟨cs, ty, esz, false⟩ := fun b hb => by
   have := Hp.ent_of_get hb; rw [he, if_pos rfl] at this; injection this with this; exact this.symm
 have hup : ∀ j, j ≠ H.n → updP p H.n q j = p j := fun j hj => by unfold updP; rw [if_neg hj]
 have hun : updP p H.n q H.n = q := by unfold updP; rw [if_pos rfl]
 have hsame : ∀ b, H.al b → (H.push (.live ⟨cs, ty, esz, false⟩)).al b ∧ updP p H.n q b = p b := fun b hb => by
   have hn : b ≠ H.n := fun e => hb (e ▸ hfr)
   exact ⟨by unfold Hp.al; rw [he, if_neg hn]; exact hb, hup b hn⟩
 refine ⟨hsame, ⟨by simp [Hp.push, h.len], ?_, ?_, ?_, ?_, ?_⟩, ?_⟩
 · intro i b hb m v hv
   by_cases hi : i = H.n
   · subst hi
     obtain rfl := hgn b hb
     obtain ⟨v', h1, h2⟩ := hc m v hv
     exact ⟨v', by rw [hun]; exact h1, h2.mono hsame⟩
   · obtain ⟨v', h1, h2⟩ := h.cell i b (hge i b hi hb) m v hv
     exact ⟨v', by rw [hup i hi]; exact h1, h2.mono hsame⟩
 · intro i b hb ho
   by_cases hi : i = H.n
   · subst hi; obtain rfl := hgn b hb; cases ho
   · rw [hup i hi]; exact h.own i b (hge i b hi hb) ho
 · intro i b hb
   by_cases hi : i = H.n
   · subst hi; obtain rfl := hgn b hb; rw [hun]; exact hq
   · rw [hup i hi]; exact h.esz i b (hge i b hi hb)
 · intro i b hb
   by_cases hi : i = H.n
   · subst hi; rw [hun]; exact hlt
   · rw [hup i hi]; exact h.lt i b (hge i b hi hb)
 · intro i j b c hb hc2 ho e
   by_cases hi : i = H.n
   · subst hi; obtain rfl := hgn b hb; cases ho
   · rw [hup i hi] at e
     by_cases hj : j = H.n
     · subst hj
       rw [hun] at e
       exact absurd (e ▸ hF) (k i b (hge i b hi hb) ho)
     · rw [hup j hj] at e
       exact h.apart i j b c (hge i b hi hb) (hge j c hj hc2) ho e
 · intro j b hb
   by_cases hj : j = H.n
   · subst hj; obtain rfl := hgn b hb; exact .inr ⟨rfl, by rw [hun]; exact hF⟩
   · exact .inl (hge j b hj hb)
mutual
theorem impT_ok {d : Nat} (hF : ∀ b, F b → b < w.heap.size) : ∀ (t : T) {H : Hp} {p : Nat → Pla} {b o : Nat}, Rel p H w → Outs F p H → H.al d → (p d).esz = 0 → RdT w F b o t →
   ∃ p', Imp F w p H p' (impT d t H).1 ∧ (impT d t H).2.length = 4 ∧ ∀ i v, (impT d t H).2[i]? = some v → ∃ v', w.cell? ⟨b, o + i, none⟩ = some v' ∧ VR (impT d t H).1.al p' v v'
 | .node k s n [], H, p, b, o, h, hO, hd, hz, hr => by
   unfold RdT at hr
   obtain ⟨A, c, hc, h0, h1, h2, h3, hk⟩ := hr
   refine ⟨p, Imp.refl h, rfl, fun i v hv => ?_⟩
   simp only [impT] at hv ⊢
   rcases i with _ | _ | _ | _ | i
   · simp at hv; subst hv; exact ⟨_, h0, .int _ _⟩
   · simp at hv; subst hv; exact ⟨_, h1, .str _⟩
   · simp at hv; subst hv; exact ⟨_, h2, .int _ _⟩
   · simp at hv; subst hv; exact ⟨_, h3, .sfor _ _ _ _ hd hz⟩
   · simp at hv
 | .node k s n (t :: r), H, p, b, o, h, hO, hd, hz, hr => by
   unfold RdT at hr
   obtain ⟨A, c, hc, h0, h1, h2, h3, hk⟩ := hr
   obtain ⟨bb, oo, hA, hFb, _, _⟩ : ∃ b o, A = some ⟨b, o, none⟩ ∧ F b ∧ RdT w F b o t ∧ RdL w F (some ⟨b, o + 4, none⟩) r := by unfold RdL at hk; exact hk
   subst hA
   obtain ⟨p1, i1, i2, i3⟩ := impL_ok hF (t :: r) h hO hd hz hk
   have i4 : Imp F w p1 (impL d (t :: r) H).1 (updP p1 (impL d (t :: r) H).1.n ⟨bb, oo, 4, oo + c * 4⟩) ((impL d (t :: r) H).1.push (.live ⟨(impL d (t :: r) H).2, 144, 4, false⟩)) :=
     Imp.push i1.rel (i1.out hO) hFb (hF bb hFb) rfl (fun i v hv => i3 bb oo rfl i v hv)
   refine ⟨_, i1.trans i4, by simp [impT], fun i v hv => ?_⟩
   simp only [impT] at hv ⊢
   have hal : ((impL d (t :: r) H).1.push (.live ⟨(impL d (t :: r) H).2, 144, 4, false⟩)).al (impL d (t :: r) H).1.n := by
     unfold Hp.al; rw [Hp.ent_push, if_pos rfl]; simp
   rcases i with _ | _ | _ | _ | i
   · simp at hv; subst hv; exact ⟨_, h0, .int _ _⟩
   · simp at hv; subst hv; exact ⟨_, h1, .str _⟩
   · simp at hv; subst hv; exact ⟨_, h2, .int _ _⟩
   · simp at hv; subst hv
     refine ⟨_, h3, ?_⟩
     have := VR.slc (A := ((impL d (t :: r) H).1.push (.live ⟨(impL d (t :: r) H).2, 144, 4, false⟩)).al) (p := updP p1 (impL d (t :: r) H).1.n ⟨bb, oo, 4, oo + c * 4⟩) (impL d (t :: r) H).1.n 0 (r.length + 1) (r.length + 1) c hal (by simpa using hc) (by unfold updP; rw [if_pos rfl]; simp)
     have hu : updP p1 (impL d (t :: r) H).1.n ⟨bb, oo, 4, oo + c * 4⟩ (impL d (t :: r) H).1.n = ⟨bb, oo, 4, oo + c * 4⟩ := by unfold updP; rw [if_pos rfl]
     rw [hu] at this
     simpa using this
   · simp at hv
theorem impL_ok {d : Nat} (hF : ∀ b, F b → b < w.heap.size) : ∀ (l : List T) {H : Hp} {p : Nat → Pla} {A : Option Addr}, Rel p H w → Outs F p H → H.al d → (p d).esz = 0 → RdL w F A l →
   ∃ p', Imp F w p H p' (impL d l H).1 ∧ (impL d l H).2.length = 4 * l.length ∧ ∀ b o, A = some ⟨b, o, none⟩ → ∀ i v, (impL d l H).2[i]? = some v → ∃ v', w.cell? ⟨b, o + i, none⟩ = some v' ∧ VR (impL d l H).1.al p' v v'
 | [], H, p, A, h, hO, hd, hz, hr => ⟨p, Imp.refl h, rfl, fun b o _ i v hv => by simp [impL] at hv⟩
 | t :: r, H, p, A, h, hO, hd, hz, hr => by
   unfold RdL at hr
   obtain ⟨b, o, hA, hFb, ht, hrr⟩ := hr
   obtain ⟨p1, i1, i2, i3⟩ := impT_ok hF t h hO hd hz ht
   have hd1 := i1.same d hd
   obtain ⟨p2, j1, j2, j3⟩ := impL_ok hF r i1.rel (i1.out hO) hd1.1 (by rw [hd1.2]; exact hz) hrr
   refine ⟨p2, i1.trans j1, by simp only [impL, List.length_append, i2, j2, List.length_cons]; omega, fun b' o' he i v hv => ?_⟩
   rw [hA] at he
   injection he with he; injection he with e1 e2; subst e1 e2
   simp only [impL] at hv ⊢
   by_cases hi : i < 4
   · rw [List.getElem?_append_left (by omega)] at hv
     obtain ⟨v', h1, h2⟩ := i3 i v hv
     exact ⟨v', h1, h2.mono j1.same⟩
   · rw [List.getElem?_append_right (by omega), i2] at hv
     obtain ⟨v', h1, h2⟩ := j3 b (o + 4) rfl _ v hv
     rw [show o + 4 + (i - 4) = o + i by omega] at h1
     exact ⟨v', h1, h2⟩
end
end
section
variable {α : Type}
mutual
def impTF (d : Nat) : T → Hp → (Hp → List Value → α) → α
 | .node k s n [], H, kk => kk H [.int .i64 k, .string s, .int .i64 n, .slice (some ⟨d, 0, none⟩) 0 0]
 | .node k s n (t :: r), H, kk => impLF d (t :: r) H fun H1 cs => nfN (r.length + 1) fun m => nfN (H1.n + 1) fun n1 =>
   kk ⟨n1, .live ⟨cs, 144, 4, false⟩ :: H1.l⟩ [.int .i64 k, .string s, .int .i64 n, .slice (some ⟨H1.n, 0, none⟩) m m]
def impLF (d : Nat) : List T → Hp → (Hp → List Value → α) → α
 | [], H, kk => kk H []
 | t :: r, H, kk => impTF d t H fun H1 c1 => impLF d r H1 fun H2 c2 => c1 |> fun c1 => kk H2 (c1 ++ c2)
end
mutual
theorem impTF_eq (d : Nat) : ∀ (t : T) (H : Hp) (kk : Hp → List Value → α), impTF d t H kk = kk (impT d t H).1 (impT d t H).2
 | .node k s n [], H, kk => rfl
 | .node k s n (t :: r), H, kk => by
   simp only [impTF, impT, nfN_eq]
   rw [impLF_eq d (t :: r) H]
   rfl
theorem impLF_eq (d : Nat) : ∀ (l : List T) (H : Hp) (kk : Hp → List Value → α), impLF d l H kk = kk (impL d l H).1 (impL d l H).2
 | [], H, kk => rfl
 | t :: r, H, kk => by
   simp only [impLF, impL]
   rw [impTF_eq d t H, impLF_eq d r]
end
end
noncomputable def extP (s : ByteArray) (l : List T) : CallF := fun L f vs H =>
 match decide (f = 55) with
 | true => match vs with
   | [.string s'] => if s'.data.toList = s.data.toList then
       impLF H.n l (H.push (.live ⟨[], 144, 0, false⟩)) fun H1 cs => takeC cs cs.length fun cs => nfN l.length fun m => nfN (H1.n + 1) fun n1 =>
         some (.tuple #[.slice (some ⟨H1.n, 0, none⟩) m m, .int .i64 0, .int .i64 0], ⟨n1, .live ⟨cs, 144, 4, false⟩ :: H1.l⟩) else none
   | _ => none
 | false => none
theorem extP_ok {s : ByteArray} {l : List T} (hrun : run s.data.toList 0 [[]] 0 = .ok l) (hl : l ≠ []) (hs : s.size ≤ 262144) : CallOK Tryz.prog (extP s l) := by
 intro L f vs H v H' p w args he h hv
 unfold extP at he
 split at he
 · rename_i hf
   have hf := of_decide_eq_true hf
   subst hf
   split at he
   · rename_i s'
     split at he
     · rename_i hss
       have hss : s' = s := ByteArray.ext (Array.toList_inj.1 hss)
       subst hss
       rw [impLF_eq] at he
       simp only [takeC_eq, nfN_eq] at he
       rw [List.take_of_length_le (Nat.le_refl _)] at he
       injection he with he; injection he with e1 e2; subst e1 e2
       have hargs : args = #[.string s'] := by
         obtain ⟨u, h1, h2⟩ := hv.2 0 _ rfl
         have hl1 := hv.1
         have : u = .string s' := h2.sc_eq rfl
         subst this
         apply Array.toList_inj.1
         rcases ha : args.toList with _ | ⟨x, _ | ⟨y, r⟩⟩
         · rw [ha] at hl1; simp at hl1
         · rw [ha] at h1; simp at h1; rw [h1]
         · rw [ha] at hl1; simp at hl1
       subst hargs
       refine (refparse_any s' w hs).mono fun e w' hp => ?_
       obtain ⟨hfr, hcase⟩ := hp
       rcases hcase with ⟨a, er, _, hr⟩ | ⟨l', A, c, he, hlc, hrd, hr⟩
       · rw [hrun] at hr; cases hr
       · rw [hrun] at hr
         injection hr with hr; subst hr
         subst he
         have hF : ∀ b, New w w' b → b < w'.heap.size := fun b hb => hb.2
         have hR : Rel p H w' := by
           refine ⟨h.len, ?_, ?_, h.esz, ?_, h.apart⟩
           · intro i b hb k v hv
             obtain ⟨v', h1, h2⟩ := h.cell i b hb k v hv
             exact ⟨v', hfr.get h1, h2⟩
           · intro i b hb ho
             obtain ⟨cs', h1, h2⟩ := h.own i b hb ho
             exact ⟨cs', (hfr.block _ (h.lt i b hb)).trans h1, h2⟩
           · intro i b hb; exact Nat.lt_of_lt_of_le (h.lt i b hb) hfr.size
         have hO : Outs (New w w') p H := fun j b hb _ hn => by
           have h1 := h.lt j b hb
           have h2 := hn.1
           omega
         rcases l with _ | ⟨t, r⟩
         · exact absurd rfl hl
         have hrd0 := hrd
         unfold RdL at hrd0
         obtain ⟨bb, oo, hA, hFb, _, _⟩ := hrd0
         subst hA
         have j1 := Imp.push (ty := 144) (esz := 0) (cs := []) (q := ⟨bb, oo, 0, 0⟩) hR hO hFb (hF bb hFb) rfl (fun i v hv => by simp at hv)
         have hd : (H.push (.live ⟨[], 144, 0, false⟩)).al H.n := by unfold Hp.al; rw [Hp.ent_push, if_pos rfl]; simp
         obtain ⟨p2, j2, j3, j4⟩ := impL_ok hF (t :: r) j1.rel (j1.out hO) hd (by unfold updP; rw [if_pos rfl]) hrd
         generalize hx : impL H.n (t :: r) (H.push (.live ⟨[], 144, 0, false⟩)) = x at *
         have j5 := Imp.push (ty := 144) (esz := 4) (cs := x.2) (q := ⟨bb, oo, 4, oo + c * 4⟩) j2.rel (j2.out (j1.out hO)) hFb (hF bb hFb) rfl (fun i v hv => j4 bb oo rfl i v hv)
         have j6 := (j1.trans j2).trans j5
         have hal : (x.1.push (.live ⟨x.2, 144, 4, false⟩)).al x.1.n := by unfold Hp.al; rw [Hp.ent_push, if_pos rfl]; simp
         have hu : updP p2 x.1.n ⟨bb, oo, 4, oo + c * 4⟩ x.1.n = ⟨bb, oo, 4, oo + c * 4⟩ := by unfold updP; rw [if_pos rfl]
         have hv1 := VR.slc (A := (x.1.push (.live ⟨x.2, 144, 4, false⟩)).al) (p := updP p2 x.1.n ⟨bb, oo, 4, oo + c * 4⟩) x.1.n 0 (t :: r).length (t :: r).length c hal hlc (by rw [hu]; simp)
         rw [hu] at hv1
         simp only [Nat.add_zero] at hv1
         refine ⟨_, _, rfl, ⟨j6.same, j6.rel, hfr.os, hfr.tape, hfr.output, hfr.size, fun b hb _ => hfr.block b hb, fun j b hb ho => ?_⟩, ?_⟩
         · rcases j6.new j b hb with k1 | ⟨k1, _⟩
           · exact .inr ⟨j, .inl rfl, ⟨b, k1, ho⟩, by rw [(j6.same j (Hp.al_of_get k1)).2]⟩
           · rw [ho] at k1; cases k1
         · exact VL.tup (VL.cons hv1 (VL.cons (.int _ _) (VL.cons (.int _ _) VL.nil)))
     · cases he
   · cases he
 · cases he
end Go.Proofs.YtdipnhghdajplaaGreatDoor
namespace Go.Proofs.YtdipnhghdajplaaGreatDoor
open Go.RowKit
set_option maxRecDepth 100000
def toyS : ByteArray := ⟨#[40, 105, 115, 97, 32, 116, 111, 121, 32, 119, 111, 114, 100, 41, 32, 40, 102, 105, 108, 101, 32, 120, 32, 52, 32, 56, 41, 32, 40, 99, 108, 97, 115, 115, 32, 114, 32, 114, 101, 103, 32, 120, 32, 50, 41, 32, 40, 102, 111, 114, 109, 32, 105, 110, 99, 32, 34, 105, 110, 99, 32, 100, 34, 32, 40, 40, 100, 32, 114, 41, 41, 32, 40, 46, 48, 48, 48, 49, 48, 49, 32, 100, 41, 32, 40, 41, 41]⟩
def toyL : List T := [.node 4 ⟨#[]⟩ 0 [.node 1 ⟨#[105, 115, 97]⟩ 0 [], .node 1 ⟨#[116, 111, 121]⟩ 0 [], .node 1 ⟨#[119, 111, 114, 100]⟩ 0 []],
 .node 4 ⟨#[]⟩ 0 [.node 1 ⟨#[102, 105, 108, 101]⟩ 0 [], .node 1 ⟨#[120]⟩ 0 [], .node 2 ⟨#[]⟩ 4 [], .node 2 ⟨#[]⟩ 8 []],
 .node 4 ⟨#[]⟩ 0 [.node 1 ⟨#[99, 108, 97, 115, 115]⟩ 0 [], .node 1 ⟨#[114]⟩ 0 [], .node 1 ⟨#[114, 101, 103]⟩ 0 [], .node 1 ⟨#[120]⟩ 0 [], .node 2 ⟨#[]⟩ 2 []],
 .node 4 ⟨#[]⟩ 0 [.node 1 ⟨#[102, 111, 114, 109]⟩ 0 [], .node 1 ⟨#[105, 110, 99]⟩ 0 [], .node 3 ⟨#[105, 110, 99, 32, 100]⟩ 0 [], .node 4 ⟨#[]⟩ 0 [.node 4 ⟨#[]⟩ 0 [.node 1 ⟨#[100]⟩ 0 [], .node 1 ⟨#[114]⟩ 0 []]], .node 4 ⟨#[]⟩ 0 [.node 1 ⟨#[46, 48, 48, 48, 49, 48, 49]⟩ 0 [], .node 1 ⟨#[100]⟩ 0 []], .node 4 ⟨#[]⟩ 0 []]]
theorem toy_run : run toyS.data.toList 0 [[]] 0 = .ok toyL := by kernel_rfl
theorem toy_ext : CallOK Tryz.prog (extP toyS toyL) := extP_ok toy_run (by unfold toyL; exact List.cons_ne_nil _ _) (by decide)
theorem Tryz.mixed : Tryz.prog.follows .mixedOrders = true := by kernel_rfl
end Go.Proofs.YtdipnhghdajplaaGreatDoor
namespace Go.Proofs.YtdipnhghdajplaaGreatDoor
open Go.RowKit
set_option linter.unusedSimpArgs false
set_option linter.unusedVariables false
def isRes (u : Value) (r : Option (Value × Hp)) : Bool := match r with
 | some (v, _) => veq 9 v u
 | none => false
theorem isRes_ok {u : Value} {r : Option (Value × Hp)} (h : isRes u r = true) : ∃ H, r = some (u, H) := by
 unfold isRes at h
 split at h
 · rename_i v H
   exact ⟨H, by rw [veq_ok 9 _ _ h]⟩
 · cases h
theorem closed_calls {P : Program} {ext : CallF} (hm : P.follows .mixedOrders = true) (hext : CallOK P ext) {n : Nat} {f : FuncId} {vs : List Value} {u : Value} (hc : isRes u (callF P (runF P ext n) [] f vs ⟨0, []⟩) = true) (hu : sc u = true) (hr : vs.all sc = true)
   (w : World) : Calls P f vs.toArray w fun e w' => e = .returned u ∧ Fr w w' := by
 obtain ⟨H, he⟩ := isRes_ok hc
 refine (calls_of_runF hm hext n (p := fun _ => ⟨0, 0, 0, 0⟩) (args := vs.toArray) he (Rel.empty _ w) (VL.of_sc hr)).mono ?_
 rintro e w' ⟨v', p', rfl, hs, hv⟩
 have hg : ∀ i b, (⟨0, []⟩ : Hp).get i = some b → False := fun i b h => by unfold Hp.get Hp.ent at h; simp at h
 exact ⟨by rw [hv.sc_eq hu], hs.old (Nat.le_refl _) (fun i hi => by obtain ⟨b, hb, _⟩ := hi; exact (hg i b hb).elim)⟩
set_option maxRecDepth 100000 in
theorem alive_eval : isRes (.bool true) (callF Tryz.prog (runF Tryz.prog (extP toyS toyL) 3000) [] 10 [] ⟨0, []⟩) = true := by kernel_rfl
theorem alive6 (w : World) : Calls Tryz.prog 10 #[] w fun e w' => e = .returned (.bool true) ∧ Fr w w' :=
 closed_calls Tryz.mixed toy_ext alive_eval rfl rfl w
end Go.Proofs.YtdipnhghdajplaaGreatDoor
