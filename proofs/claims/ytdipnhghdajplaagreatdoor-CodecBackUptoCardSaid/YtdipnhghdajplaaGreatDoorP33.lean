/- Words, bytes, and what a form's layout of package codec says of them: plain. -/
import Derived.Test.YtdipnhghdajplaaGreatDoorP32
import Derived.Test.YtdipnhghdajplaaGreatDoorP26
namespace Go.Proofs.YtdipnhghdajplaaGreatDoor
open Go.RowKit
set_option linter.unusedSimpArgs false
set_option linter.unusedVariables false
theorem layB_at6 {o : Int} {bits : Nat} {k m : Nat} : ∀ (l : List Bt) (wr : Nat) (L : Ly) (i : Nat), (∀ x ∈ l, x.arg ≠ -1 → 0 ≤ x.arg ∧ 0 ≤ x.num ∧ x.lit = 0) → l.Pairwise (fun a b => a.arg ≠ -1 → a ≠ b) → l[i]? = some ⟨0, (k : Int), (m : Int)⟩ →
   (∃ c a, L.ops[k]? = some (c, a) ∧ m < a.length) → ∃ c a, (layB o bits l wr L).ops[k]? = some (c, a) ∧ a[m]? = some (plcN o (wr + i) bits : Int)
 | [], _, _, i, _, _, h, _ => by simp at h
 | x :: r, wr, L, 0, hx, hp, h, ⟨c, a, h1, h2⟩ => by
   obtain rfl : x = ⟨0, (k : Int), (m : Int)⟩ := by simpa using h
   have hk : ¬ (k : Int) = -1 := by omega
   show ∃ c a, (layB o bits r (wr + 1) (putB _ (plcN o wr bits) L)).ops[k]? = _ ∧ _
   refine layB_ops r (wr + 1) _ _ (fun y hy => hx y (by simp [hy])) ?_ (fun y hy e => (List.pairwise_cons.1 hp).1 y hy (by simp only; exact hk) e.symm)
   refine ⟨c, a.set m (plcN o wr bits : Int), ?_, ?_⟩
   · unfold putB; rw [if_neg (by simp only; exact hk)]; unfold putO; simp [List.getElem?_modify, h1]
   · rw [List.getElem?_set_self h2]; simp
 | x :: r, wr, L, i + 1, hx, hp, h, ⟨c, a, h1, h2⟩ => by
   show ∃ c a, (layB o bits r (wr + 1) (putB x (plcN o wr bits) L)).ops[k]? = _ ∧ _
   rw [show wr + (i + 1) = wr + 1 + i by omega]
   obtain ⟨a', h3, h4⟩ := layB_len (o := o) (bits := bits) [x] wr L c a.length ⟨a, h1, rfl⟩
   exact layB_at6 r (wr + 1) _ i (fun y hy => hx y (by simp [hy])) (List.pairwise_cons.1 hp).2 (by simpa using h) ⟨c, a', h3, by omega⟩
theorem cf_lit {D : Ds} {args : List Int} {pcs : List Pc} (hp : patN D args pcs ≠ 0) {p : Nat} (h : p < 128) : hasN (layCD D args pcs).l0 (layCD D args pcs).l1 p = true ↔ ∃ (i : Nat) (x : Bt), (wL D args pcs)[i]? = some x ∧ plcN D.order i (patN D args pcs) = p ∧ x.arg = -1 ∧ x.lit ≠ 120 := by
 obtain ⟨_, el⟩ := layD_B hp
 obtain ⟨_, _, _, h8, hb⟩ := pat_sum hp
 unfold layCD
 rw [layC_adds (G := fun f => hasN f.l0 f.l1 p = true) (H := fun x => x.arg = -1 ∧ x.lit ≠ 120) hb h8 (fun x f q hq => putC_lit x f h hq) _ 0 _ (by omega)]
 constructor
 · rintro (h1 | ⟨i, x, h1, h2, h3⟩)
   · exfalso
     unfold hasN cf0 at h1; split at h1 <;> simp at h1
   · exact ⟨i, x, h1, by rwa [Nat.zero_add] at h2, h3⟩
 · rintro ⟨i, x, h1, h2, h3⟩
   exact .inr ⟨i, x, h1, by rwa [Nat.zero_add], h3⟩
theorem cf_one {D : Ds} {args : List Int} {pcs : List Pc} (hp : patN D args pcs ≠ 0) {p : Nat} (h : p < 128) : hasN (layCD D args pcs).u0 (layCD D args pcs).u1 p = true ↔ ∃ (i : Nat) (x : Bt), (wL D args pcs)[i]? = some x ∧ plcN D.order i (patN D args pcs) = p ∧ x.arg = -1 ∧ x.lit = 49 := by
 obtain ⟨_, el⟩ := layD_B hp
 obtain ⟨_, _, _, h8, hb⟩ := pat_sum hp
 unfold layCD
 rw [layC_adds (G := fun f => hasN f.u0 f.u1 p = true) (H := fun x => x.arg = -1 ∧ x.lit = 49) hb h8 (fun x f q hq => putC_one x f h hq) _ 0 _ (by omega)]
 constructor
 · rintro (h1 | ⟨i, x, h1, h2, h3⟩)
   · exfalso
     unfold hasN cf0 at h1; split at h1 <;> simp at h1
   · exact ⟨i, x, h1, by rwa [Nat.zero_add] at h2, h3⟩
 · rintro ⟨i, x, h1, h2, h3⟩
   exact .inr ⟨i, x, h1, by rwa [Nat.zero_add], h3⟩
theorem cf_canon (D : Ds) (args : List Int) (pcs : List Pc) : (layCD D args pcs).canon = true ↔ ∀ x ∈ wL D args pcs, x.arg = -1 → x.lit ≠ 120 := by
 unfold layCD
 rw [layC_canon]
 exact ⟨fun h => h.2, fun h => ⟨rfl, h⟩⟩
theorem cf_size (D : Ds) (args : List Int) (pcs : List Pc) : (layCD D args pcs).size = patN D args pcs / 8 := by unfold layCD; rw [layC_size]; rfl
theorem cf_ok (D : Ds) (args : List Int) (pcs : List Pc) : CfOk (layCD D args pcs) := layC_ok _ _ _ (cf0_ok _ _ _)
theorem cf_fst (D : Ds) (args : List Int) (pcs : List Pc) : (layCD D args pcs).ops.map (·.1) = args := by
 unfold layCD
 rw [layC_cls]
 simp [cf0, op0C, Function.comp_def]
theorem cf_len (D : Ds) (args : List Int) (pcs : List Pc) : (layCD D args pcs).ops.length = args.length := by
 have := congrArg List.length (cf_fst D args pcs)
 simpa using this
theorem cf_map {D : Ds} {args : List Int} {pcs : List Pc} (hp : patN D args pcs ≠ 0) : (layD D args pcs).ops = (layCD D args pcs).ops.map (clO D) := by
 obtain ⟨e, _⟩ := layD_B hp
 rw [e]
 unfold layCD
 refine layC_ops _ _ _ _ ?_
 simp only [lay0, cf0, List.map_map]
 rfl
theorem cf_ops {D : Ds} {args : List Int} {pcs : List Pc} (hp : patN D args pcs ≠ 0) {k : Nat} (hk : k < args.length) : ∃ l : List Int, (layCD D args pcs).ops[k]? = some (args[k], l) ∧ (l.length : Int) = bitsAt D args k ∧
   ∀ m : Nat, m < l.length → ∃ i : Nat, (wL D args pcs)[i]? = some ⟨0, (k : Int), (m : Int)⟩ ∧ l[m]? = some (plcN D.order i (patN D args pcs) : Int) := by
 obtain ⟨e, el⟩ := layD_B hp
 obtain ⟨h1, _, _, h8, hb⟩ := pat_sum hp
 have ho := wL_once hp
 have hok := wL_ok hp
 unfold opsB at h1
 rw [Bool.and_eq_true] at h1
 have hargs : ∀ x ∈ wL D args pcs, x.arg ≠ -1 → 0 ≤ x.arg ∧ 0 ≤ x.num ∧ x.lit = 0 := fun x hx ha => by
   rcases hok x hx with ⟨h2, _⟩ | ⟨h2, k, m, h3, h4, _⟩
   · exact absurd h2 ha
   · exact ⟨by omega, by omega, h2⟩
 obtain ⟨c, ec, hc, hcl, hba, hb1, hb64⟩ := args_at h1.2 hk
 have h0 : (lay0 D args).ops[k]? = some (D.cls[c], List.replicate (D.cls[c]).bits.toNat 0) := by
   simp [lay0, op0, List.getElem?_eq_getElem hk, ec, List.getElem?_eq_getElem hc]
 obtain ⟨a, ha, hal⟩ := layB_len (o := D.order) (bits := patN D args pcs) (k := k) (wL D args pcs) 0 (lay0 D args) D.cls[c] _ ⟨_, h0, rfl⟩
 rw [← e, cf_map hp, List.getElem?_map] at ha
 have hkl : k < (layCD D args pcs).ops.length := by rw [cf_len]; exact hk
 rw [List.getElem?_eq_getElem hkl] at ha ⊢
 have hfst : ((layCD D args pcs).ops[k]).1 = args[k] := by
   have := List.getElem_of_eq (cf_fst D args pcs) (i := k) (by simpa using hkl)
   simpa using this
 have ha2 : ((layCD D args pcs).ops[k]).2 = a := by
   simp only [Option.map_some, clO, Option.some.injEq, Prod.mk.injEq] at ha
   exact ha.2
 refine ⟨a, by rw [← hfst, ← ha2], by rw [hal, List.length_replicate, hba]; omega, fun m hm => ?_⟩
 rw [hal, List.length_replicate] at hm
 have hmem := (ho.has k m hk).2 (by rw [hba]; omega)
 obtain ⟨s, hs, es⟩ := List.mem_iff_getElem.1 hmem
 have hs2 : (wL D args pcs)[s]? = some ⟨0, (k : Int), (m : Int)⟩ := by rw [List.getElem?_eq_getElem hs, es]
 obtain ⟨c2, a2, h2, h3⟩ := layB_at6 (o := D.order) (bits := patN D args pcs) (wL D args pcs) 0 (lay0 D args) s hargs ho.once hs2 ⟨_, _, h0, by simp; omega⟩
 rw [← e, cf_map hp, List.getElem?_map, List.getElem?_eq_getElem hkl] at h2
 simp only [Option.map_some, clO, Option.some.injEq, Prod.mk.injEq] at h2
 refine ⟨s, hs2, ?_⟩
 rw [← ha2, h2.2, h3, Nat.zero_add]
def FitC (β : Nat → Bool) (f : Cf) : Prop := ∀ p, p < 128 → (β p && hasN f.l0 f.l1 p) = hasN f.u0 f.u1 p
theorem fitC_iff {D : Ds} {args : List Int} {pcs : List Pc} (hp : patN D args pcs ≠ 0) (β : Nat → Bool) : FitC β (layCD D args pcs) ↔
   ∀ (i : Nat) (x : Bt), (wL D args pcs)[i]? = some x → x.arg = -1 → (x.lit = 48 → β (plcN D.order i (patN D args pcs)) = false) ∧ (x.lit = 49 → β (plcN D.order i (patN D args pcs)) = true) := by
 obtain ⟨_, el⟩ := layD_B hp
 obtain ⟨_, _, _, h8, hb⟩ := pat_sum hp
 have hok := wL_ok hp
 constructor
 · intro h i x hx ha
   have hi : i < patN D args pcs := by rw [← el]; exact (List.getElem?_eq_some_iff.1 hx).1
   have hpl : plcN D.order i (patN D args pcs) < 128 := Nat.lt_trans (plcN_lt hi hb h8) (by decide)
   have h1 := h _ hpl
   refine ⟨fun hl => ?_, fun hl => ?_⟩
   · have h2 := (cf_lit hp hpl).2 ⟨i, x, hx, rfl, ha, by omega⟩
     have h3 : hasN (layCD D args pcs).u0 (layCD D args pcs).u1 (plcN D.order i (patN D args pcs)) = false := by
       cases h4 : hasN (layCD D args pcs).u0 (layCD D args pcs).u1 (plcN D.order i (patN D args pcs)) with
       | false => rfl
       | true =>
         obtain ⟨i', x', g1, g2, g3, g4⟩ := (cf_one hp hpl).1 h4
         have hi' : i' < patN D args pcs := by rw [← el]; exact (List.getElem?_eq_some_iff.1 g1).1
         obtain rfl := plc_inj hi' hi g2
         obtain rfl := Option.some.inj (hx.symm.trans g1)
         omega
     rw [h2, h3, Bool.and_true] at h1; exact h1
   · have h2 := (cf_lit hp hpl).2 ⟨i, x, hx, rfl, ha, by omega⟩
     have h3 := (cf_one hp hpl).2 ⟨i, x, hx, rfl, ha, hl⟩
     rw [h2, h3, Bool.and_true] at h1; exact h1
 · intro h p hpl
   cases h4 : hasN (layCD D args pcs).l0 (layCD D args pcs).l1 p with
   | false =>
     cases h5 : hasN (layCD D args pcs).u0 (layCD D args pcs).u1 p with
     | false => rw [Bool.and_false]
     | true =>
       obtain ⟨i, x, g1, g2, g3, g4⟩ := (cf_one hp hpl).1 h5
       have := (cf_lit hp hpl).2 ⟨i, x, g1, g2, g3, by omega⟩
       rw [h4] at this; cases this
   | true =>
     obtain ⟨i, x, g1, g2, g3, g4⟩ := (cf_lit hp hpl).1 h4
     have hx := h i x g1 g3
     rw [g2] at hx
     rw [Bool.and_true]
     rcases hok x (List.mem_of_getElem? g1) with ⟨_, _, k1 | k1 | k1⟩ | ⟨_, k, m, k1, _⟩
     · rw [hx.1 k1]
       cases h5 : hasN (layCD D args pcs).u0 (layCD D args pcs).u1 p with
       | false => rfl
       | true =>
         obtain ⟨i', x', q1, q2, q3, q4⟩ := (cf_one hp hpl).1 h5
         have hi : i < patN D args pcs := by rw [← el]; exact (List.getElem?_eq_some_iff.1 g1).1
         have hi' : i' < patN D args pcs := by rw [← el]; exact (List.getElem?_eq_some_iff.1 q1).1
         obtain rfl := plc_inj hi' hi (q2.trans g2.symm)
         obtain rfl := Option.some.inj (g1.symm.trans q1)
         omega
     · rw [hx.2 k1]
       exact ((cf_one hp hpl).2 ⟨i, x, g1, g2, g3, k1⟩).symm
     · exact absurd k1 g4
     · omega
theorem cls_of {D : Ds} {args : List Int} (hall : args.all (clsAtB D) = true) {k : Nat} (hk : k < args.length) : ∃ c : Cl, D.cls[(args[k]).toNat]? = some c ∧ clsB D c = true ∧ bitsAt D args k = c.bits ∧ 1 ≤ c.bits ∧ c.bits ≤ 64 ∧ 0 ≤ args[k] ∧ args[k] < D.cls.length := by
 obtain ⟨c, ec, hc, h1, h2, h3, h4⟩ := args_at hall hk
 refine ⟨D.cls[c], by rw [ec, Int.toNat_natCast]; exact List.getElem?_eq_getElem hc, h1, h2, h3, h4, by omega, by omega⟩
theorem fitL_of {D : Ds} {args : List Int} {pcs : List Pc} (hp : patN D args pcs ≠ 0) {β : Nat → Bool} (h : FitC β (layCD D args pcs)) (hv : ∀ x ∈ (layCD D args pcs).ops, valI (clO D x).1 (numA β x.2) ∉ (clO D x).1.ex) : FitL β (layD D args pcs) := by
 obtain ⟨e, el⟩ := layD_B hp
 obtain ⟨_, _, _, h8, hb⟩ := pat_sum hp
 refine ⟨?_, fun x hx => ?_⟩
 · rw [e]
   refine layB_fit hb h8 _ 0 _ (by omega) ⟨fun p _ hh => ?_, fun p _ hh => ?_⟩ (fun i x hx ha => ?_)
   · unfold hasN lay0 at hh; split at hh <;> simp at hh
   · unfold hasN lay0 at hh; split at hh <;> simp at hh
   · rw [Nat.zero_add]
     exact (fitC_iff hp β).1 h i x hx ha
 · rw [cf_map hp] at hx
   obtain ⟨y, hy, rfl⟩ := List.mem_map.1 hx
   exact hv y hy
theorem chk_clash {D : Ds} (h : (chkN D).2 = 0) : ∀ n, n < D.fms.length → clashAt D n = false := by
 unfold chkN at h
 split at h
 · exact absurd h (by decide)
 · cases hb : badL D D.fms 0 with
   | some x =>
     obtain ⟨n, e⟩ := x
     rw [hb] at h
     have h : e = 0 := h
     subst h
     have : ∀ (l : List Fm) (n m : Nat), badL D l n ≠ some (m, 0) := by
       intro l
       induction l with
       | nil => intro n m h2; cases h2
       | cons f r ih =>
         intro n m h2
         unfold badL at h2
         split at h2
         · injection h2 with h2; injection h2 with _ h2; cases h2
         · split at h2
           · injection h2 with h2; injection h2 with _ h2; cases h2
           · exact ih _ _ h2
     exact absurd hb (this _ _ _)
   | none =>
     rw [hb] at h
     cases hc : clashN D with
     | some n =>
       rw [hc] at h
       have h : (54 : Int) = 0 := h
       omega
     | none =>
       intro n hn
       have := List.find?_eq_none.1 hc n (by simpa using hn)
       simpa using this
theorem one_fits {D : Ds} (h : (chkN D).2 = 0) (hpat : ∀ f ∈ D.fms, patN D f.args f.pcs ≠ 0) {β : Nat → Bool} {i j : Nat} (hij : i < j) (hj : j < D.fms.length) (h1 : FitL β (layF D (D.fms[i]'(Nat.lt_trans hij hj)))) (h2 : FitL β (layF D D.fms[j])) : False := by
 have hi := Nat.lt_trans hij hj
 have h3 := chk_clash h j hj
 unfold clashAt at h3
 rw [List.getElem?_eq_getElem hj] at h3
 have h4 : (D.fms.take j).all (fun g => apB (layF D g) (layF D D.fms[j])) = true := by simpa using h3
 have h5 := List.all_eq_true.1 h4 D.fms[i] (List.mem_take_iff_getElem.2 ⟨i, by omega, rfl⟩)
 have h6 := apart_no (layD_ok (hpat _ (List.getElem_mem hi))) (layD_ok (hpat _ (List.getElem_mem hj))) h1 h2
 have h5 : apB (layF D D.fms[i]) (layF D D.fms[j]) = true := h5
 unfold layF at h5
 rw [h6] at h5; cases h5
def putW : List Int → Nat → Nat → W2 → W2
 | [], _, _, x => x
 | p :: r, k, e, x => putW r (k + 1) e (if e.testBit k then setW x p.toNat else x)
theorem putW_has : ∀ (l : List Int) (k e : Nat) (x : W2) (p : Nat), p < 128 → (∀ q ∈ l, 0 ≤ q ∧ q < 128) → (hasW (putW l k e x) p = true ↔ hasW x p = true ∨ ∃ m : Nat, l[m]? = some (p : Int) ∧ e.testBit (k + m) = true)
 | [], k, e, x, p, _, _ => by simp [putW]
 | q :: r, k, e, x, p, hp, hq => by
   have hq0 := hq q (by simp)
   unfold putW
   rw [putW_has r (k + 1) e _ p hp (fun y hy => hq y (by simp [hy]))]
   constructor
   · rintro (h | ⟨m, h1, h2⟩)
     · cases hb : e.testBit k with
       | false => rw [hb] at h; exact .inl h
       | true =>
         rw [hb, if_pos rfl, hasW_set x hp (by omega), Bool.or_eq_true, decide_eq_true_eq] at h
         rcases h with h | h
         · exact .inl h
         · exact .inr ⟨0, by simp; omega, hb⟩
     · exact .inr ⟨m + 1, by simpa using h1, by rw [show k + (m + 1) = k + 1 + m by omega]; exact h2⟩
   · rintro (h | ⟨m, h1, h2⟩)
     · left
       split
       · rw [hasW_set x hp (by omega), h, Bool.true_or]
       · exact h
     · match m, h1, h2 with
       | 0, h1, h2 =>
         left
         have h1 : q = (p : Int) := by simpa using h1
         rw [Nat.add_zero] at h2
         rw [h2, if_pos rfl, hasW_set x hp (by omega), Bool.or_eq_true, decide_eq_true_eq]
         right; omega
       | m + 1, h1, h2 => exact .inr ⟨m, by simpa using h1, by rw [show k + 1 + m = k + (m + 1) by omega]; exact h2⟩
theorem putW_lt : ∀ (l : List Int) (k e : Nat) (x : W2), x.1 < 18446744073709551616 → x.2 < 18446744073709551616 → (putW l k e x).1 < 18446744073709551616 ∧ (putW l k e x).2 < 18446744073709551616
 | [], _, _, _, h1, h2 => ⟨h1, h2⟩
 | p :: r, k, e, x, h1, h2 => by
   unfold putW
   split
   · exact putW_lt r _ e _ (setW_lt h1 h2 _).1 (setW_lt h1 h2 _).2
   · exact putW_lt r _ e _ h1 h2
def encW : List (List Int) → List Nat → W2 → W2
 | l :: r, e :: s, x => encW r s (putW l 0 e x)
 | _, _, x => x
theorem encW_has : ∀ (ls : List (List Int)) (es : List Nat) (x : W2) (p : Nat), p < 128 → (∀ l ∈ ls, ∀ q ∈ l, 0 ≤ q ∧ q < 128) → ls.length = es.length → (hasW (encW ls es x) p = true ↔ hasW x p = true ∨ ∃ (k : Nat) (l : List Int) (e m : Nat), ls[k]? = some l ∧ es[k]? = some e ∧ l[m]? = some (p : Int) ∧ e.testBit m = true)
 | [], es, x, p, _, _, _ => by simp [encW]
 | l :: r, [], x, p, _, _, h => by simp at h
 | l :: r, e :: s, x, p, hp, hq, hl => by
   unfold encW
   rw [encW_has r s _ p hp (fun y hy => hq y (by simp [hy])) (by simpa using hl), putW_has l 0 e x p hp (hq l (by simp))]
   constructor
   · rintro ((h | ⟨m, h1, h2⟩) | ⟨k, l', e', m, h1, h2, h3, h4⟩)
     · exact .inl h
     · exact .inr ⟨0, l, e, m, rfl, rfl, h1, by rwa [Nat.zero_add] at h2⟩
     · exact .inr ⟨k + 1, l', e', m, by simpa using h1, by simpa using h2, h3, h4⟩
   · rintro (h | ⟨k, l', e', m, h1, h2, h3, h4⟩)
     · exact .inl (.inl h)
     · match k, h1, h2 with
       | 0, h1, h2 =>
         obtain rfl : l = l' := by simpa using h1
         obtain rfl : e = e' := by simpa using h2
         exact .inl (.inr ⟨m, h3, by rwa [Nat.zero_add]⟩)
       | k + 1, h1, h2 => exact .inr ⟨k, l', e', m, by simpa using h1, by simpa using h2, h3, h4⟩
theorem encW_lt : ∀ (ls : List (List Int)) (es : List Nat) (x : W2), x.1 < 18446744073709551616 → x.2 < 18446744073709551616 → (encW ls es x).1 < 18446744073709551616 ∧ (encW ls es x).2 < 18446744073709551616
 | [], _, _, h1, h2 => ⟨h1, h2⟩
 | _ :: _, [], _, h1, h2 => ⟨h1, h2⟩
 | l :: r, e :: s, x, h1, h2 => by
   unfold encW
   exact encW_lt r s _ (putW_lt l 0 e x h1 h2).1 (putW_lt l 0 e x h1 h2).2
def outW (f : Cf) (es : List Nat) : W2 := encW (f.ops.map (·.2)) es (f.u0, f.u1)
theorem cf_places {D : Ds} {args : List Int} {pcs : List Pc} (hp : patN D args pcs ≠ 0) : ∀ x ∈ (layCD D args pcs).ops, ∀ q ∈ x.2, 0 ≤ q ∧ q < 128 := by
 intro x hx q hq
 have := (layD_ok hp).at_ (clO D x) (by rw [cf_map hp]; exact List.mem_map.2 ⟨x, hx, rfl⟩) q hq
 exact this
theorem out_bit {D : Ds} {args : List Int} {pcs : List Pc} (hp : patN D args pcs ≠ 0) {es : List Nat} (hl : es.length = args.length) {i : Nat} {x : Bt} (hx : (wL D args pcs)[i]? = some x) :
   (x.arg = -1 → hasW (outW (layCD D args pcs) es) (plcN D.order i (patN D args pcs)) = decide (x.lit = 49)) ∧ ∀ k m : Nat, x = ⟨0, (k : Int), (m : Int)⟩ → k < args.length → hasW (outW (layCD D args pcs) es) (plcN D.order i (patN D args pcs)) = (es.getD k 0).testBit m := by
 obtain ⟨_, el⟩ := layD_B hp
 obtain ⟨_, _, _, h8, hb⟩ := pat_sum hp
 have hi : i < patN D args pcs := by rw [← el]; exact (List.getElem?_eq_some_iff.1 hx).1
 have hpl : plcN D.order i (patN D args pcs) < 128 := Nat.lt_trans (plcN_lt hi hb h8) (by decide)
 have key := encW_has ((layCD D args pcs).ops.map (·.2)) es ((layCD D args pcs).u0, (layCD D args pcs).u1) _ hpl (fun l hl q hq => by
   obtain ⟨y, hy, rfl⟩ := List.mem_map.1 hl
   exact cf_places hp y hy q hq) (by simp [cf_len, hl])
 have hone : hasW ((layCD D args pcs).u0, (layCD D args pcs).u1) (plcN D.order i (patN D args pcs)) = true ↔ x.arg = -1 ∧ x.lit = 49 := by
   show hasN _ _ _ = true ↔ _
   rw [cf_one hp hpl]
   constructor
   · rintro ⟨i', x', g1, g2, g3⟩
     have hi' : i' < patN D args pcs := by rw [← el]; exact (List.getElem?_eq_some_iff.1 g1).1
     obtain rfl := plc_inj hi' hi g2
     obtain rfl := Option.some.inj (hx.symm.trans g1)
     exact g3
   · exact fun h => ⟨i, x, hx, rfl, h⟩
 have harg : (∃ (k : Nat) (l : List Int) (e m : Nat), ((layCD D args pcs).ops.map (·.2))[k]? = some l ∧ es[k]? = some e ∧ l[m]? = some (plcN D.order i (patN D args pcs) : Int) ∧ e.testBit m = true) ↔ ∃ k m : Nat, k < args.length ∧ x = ⟨0, (k : Int), (m : Int)⟩ ∧ (es.getD k 0).testBit m = true := by
   constructor
   · rintro ⟨k, l, e, m, g1, g2, g3, g4⟩
     have hk : k < args.length := by rw [← hl]; exact (List.getElem?_eq_some_iff.1 g2).1
     obtain ⟨l2, q1, q2, q3⟩ := cf_ops hp hk
     rw [List.getElem?_map, q1] at g1
     obtain rfl : l2 = l := by simpa using g1
     obtain ⟨i', q4, q5⟩ := q3 m (List.getElem?_eq_some_iff.1 g3).1
     rw [q5] at g3
     have hi' : i' < patN D args pcs := by rw [← el]; exact (List.getElem?_eq_some_iff.1 q4).1
     have e5 : plcN D.order i' (patN D args pcs) = plcN D.order i (patN D args pcs) := by
       have := Option.some.inj g3
       omega
     obtain rfl := plc_inj hi' hi e5
     refine ⟨k, m, hk, Option.some.inj (hx.symm.trans q4), ?_⟩
     rw [List.getD_eq_getElem?_getD, g2]; exact g4
   · rintro ⟨k, m, hk, rfl, g4⟩
     obtain ⟨l2, q1, q2, q3⟩ := cf_ops hp hk
     have hke : k < es.length := by omega
     have hmb := ((wL_once hp).has k m hk).1 (List.mem_of_getElem? hx)
     obtain ⟨i', q4, q5⟩ := q3 m (by omega)
     have hi' : i' < patN D args pcs := by rw [← el]; exact (List.getElem?_eq_some_iff.1 q4).1
     have e5 : i = i' := by
       have hpw := List.pairwise_iff_getElem.1 (wL_once hp).once
       obtain ⟨l1, e1⟩ := List.getElem?_eq_some_iff.1 hx
       obtain ⟨l2', e2⟩ := List.getElem?_eq_some_iff.1 q4
       rcases Nat.lt_trichotomy i i' with h3 | h3 | h3
       · exact absurd (e1.trans e2.symm) (hpw _ _ l1 l2' h3 (by rw [e1]; simp only; omega))
       · exact h3
       · exact absurd (e2.trans e1.symm) (hpw _ _ l2' l1 h3 (by rw [e2]; simp only; omega))
     subst e5
     refine ⟨k, l2, es[k], m, by rw [List.getElem?_map, q1]; rfl, List.getElem?_eq_getElem hke, q5, ?_⟩
     rwa [List.getD_eq_getElem?_getD, List.getElem?_eq_getElem hke] at g4
 rw [hone, harg] at key
 refine ⟨fun ha => ?_, fun k m hk hkl => ?_⟩
 · rw [Bool.eq_iff_iff, decide_eq_true_eq]
   show hasW (encW _ es _) _ = true ↔ _
   rw [key]
   constructor
   · rintro (h | ⟨k, m, _, h, _⟩)
     · exact h.2
     · rw [h] at ha; simp only at ha; omega
   · exact fun h => .inl ⟨ha, h⟩
 · subst hk
   rw [Bool.eq_iff_iff]
   show hasW (encW _ es _) _ = true ↔ _
   rw [key]
   constructor
   · rintro (h | ⟨k', m', _, h, h2⟩)
     · have := h.1; simp only at this; omega
     · injection h with _ e1 e2
       rw [show k = k' by omega, show m = m' by omega]; exact h2
   · exact fun h => .inr ⟨k, m, hkl, rfl, h⟩
theorem and_one {x : Nat} (hx : x < 18446744073709551616) : bits .and .u64 (x : Int) 1 = ((x % 2 : Nat) : Int) := by
 have := u64_and_nat x 1 hx (by decide)
 rw [Nat.and_one_is_mod] at this
 exact this
theorem shr_nat (x r : Nat) : (x : Int) / 2 ^ r = ((x / 2 ^ r : Nat) : Int) := by simp
theorem shr_lt {x : Nat} (hx : x < 18446744073709551616) (r : Nat) : x / 2 ^ r < 18446744073709551616 := Nat.lt_of_le_of_lt (Nat.div_le_self _ _) hx
theorem bit_mod (x r : Nat) : x / 2 ^ r % 2 = if x.testBit r then 1 else 0 := by
 rw [Nat.testBit_eq_decide_div_mod_eq]
 have : x / 2 ^ r % 2 < 2 := Nat.mod_lt _ (by decide)
 by_cases h : x / 2 ^ r % 2 = 1 <;> simp [h]
 omega
theorem wrap_u64 {x : Nat} (h : x < 18446744073709551616) : IntKind.u64.wrap (x : Int) = (x : Int) := by
 simp [IntKind.wrap, IntKind.bits, IntKind.signed]; omega
theorem get_step {x acc r j : Nat} (hx : x < 18446744073709551616) (ha : acc < 18446744073709551616) (hj : j < 64) :
   bits .or .u64 (acc : Int) (IntKind.u64.wrap (bits .and .u64 ((x : Int) / 2 ^ r) 1 * 2 ^ j)) = ((if x.testBit r then acc ||| 2 ^ j else acc : Nat) : Int) := by
 rw [shr_nat, and_one (shr_lt hx r), bit_mod]
 have hp := pow_u64 ⟨j, hj⟩
 simp only at hp
 split
 · have e : ((1 : Nat) : Int) * 2 ^ j = ((2 ^ j : Nat) : Int) := by simp
   rw [e, wrap_u64 hp]
   exact u64_or_nat acc (2 ^ j) ha hp
 · have e : ((0 : Nat) : Int) * 2 ^ j = ((0 : Nat) : Int) := by simp
   rw [e, wrap_u64 (by decide)]
   have := u64_or_nat acc 0 ha (by decide)
   rwa [Nat.or_zero] at this
theorem numA_take (β : Nat → Bool) {l : List Int} {j : Nat} (h : j < l.length) : numA β (l.take (j + 1)) = if β (l[j]).toNat then numA β (l.take j) ||| 2 ^ j else numA β (l.take j) := by
 unfold numA
 rw [List.take_succ_eq_append_getElem h, List.foldl_append]
 have hk : ∀ (l : List Int) (s : Nat × Nat), (l.foldl (numF β) s).1 = s.1 + l.length := by
   intro l
   induction l with
   | nil => intro s; simp
   | cons p r ih => intro s; rw [List.foldl_cons, ih]; simp [numF]; omega
 have h1 := hk (l.take j) (0, 0)
 rw [List.length_take, Nat.min_eq_left (Nat.le_of_lt h), Nat.zero_add] at h1
 simp only [List.foldl_cons, List.foldl_nil, numF]
 rw [h1]
theorem numA_len {β : Nat → Bool} {l : List Int} {n : Nat} (h : l.length ≤ n) : numA β l < 2 ^ n := by
 apply Nat.lt_pow_two_of_testBit
 intro m hm
 rw [numA_bit, List.getElem?_eq_none (by omega)]
def RelGw (a b : Nat) (l : List Int) (W : World) (i bv : Value) (wr : World) : Prop := ∃ j : Nat, j ≤ l.length ∧ i = .int .i64 (j : Int) ∧ bv = .int .u64 (numA (hasN a b) (l.take j) : Int) ∧ Fr W wr
set_option maxHeartbeats 6400000 in
set_option maxRecDepth 100000 in
theorem cget_any {w : World} (a b : Nat) (ha : a < 18446744073709551616) (hb : b < 18446744073709551616) {A : Option Addr} {l : List Int} (c : Nat) (h : RowOf IntC 1 w A l) (hl : l.length ≤ 64) (hp : ∀ q ∈ l, 0 ≤ q ∧ q < 128) :
   Calls Tryz.prog 66 #[.agg #[.int .u64 (a : Int), .int .u64 (b : Int)], .slice A l.length c] w fun e w' => e = .returned (.int .u64 (numA (hasN a b) l : Int)) ∧ Fr w w' := by
 have HR := Lib.hid h
 have HP := Lib.hid hp
 have HB := Lib.hid (show BlkAt (w.alloc (.cells #[.int .u64 (a : Int), .int .u64 (b : Int)] 92)) w.heap.size [.int .u64 (a : Int), .int .u64 (b : Int)] from BlkAt.alloc)
 have HF1 := Lib.hid (show Fr w (w.alloc (.cells #[.int .u64 (a : Int), .int .u64 (b : Int)] 92)) from Fr.alloc (Fr.refl w) _)
 obtain ⟨T, hT⟩ : ∃ T, numA (hasN a b) l = T := ⟨_, rfl⟩
 have HT := Lib.hid hT
 rw [hT]
 clear h hp hT
 go_enter Tryz.func66, Tryz.ntmps66
 go_wp2_with fail
 generalize World.alloc w _ = W1 at *
 generalize w.heap.size = kb at *
 go_loopw [9, 5] (fun i bv wr => RelGw a b l W1 i bv wr) (fun i _ _ => l.length - (intOf i).toNat)
 case atStart => exact ⟨0, Nat.zero_le _, rfl, by rw [List.take_zero]; rfl, Fr.refl _⟩
 case round =>
   obtain ⟨j, hj, rfl, rfl, hf⟩ := hrel
   have HF := Lib.hid hf
   clear hf
   by_cases hlt : j < l.length
   · have hji : (j : Int) < (l.length : Int) := by omega
     have hj0 : (0 : Int) ≤ (j : Int) := by omega
     have hj64 : j < 64 := by omega
     have HST := Lib.hid (numA_take (hasN a b) hlt)
     have HAC := Lib.hid (Nat.lt_of_lt_of_le (numA_len (β := hasN a b) (l := l.take j) (n := 64) (by rw [List.length_take]; omega)) (by decide : 2 ^ 64 ≤ 18446744073709551616))
     have hq := HP.out _ (List.getElem_mem hlt)
     obtain ⟨be, oe, rfl, hx⟩ := (HR.out.fr fun _ _ _ x => IntC.fr x (HF1.out.call HF.out)).at hlt
     unfold IntC at hx
     rw [Nat.one_mul] at hx
     generalize l[j] = q at *
     obtain ⟨r, rfl⟩ : ∃ r : Nat, q = (r : Int) := ⟨q.toNat, by omega⟩
     rw [Int.toNat_natCast] at HST
     have b0 := HB.out.fr HF.out 0 _ rfl
     have b1 := HB.out.fr HF.out 1 _ rfl
     have zb := lt_of_cell b0
     have zx := lt_of_cell hx
     generalize numA (hasN a b) (l.take j) = acc at *
     by_cases h64 : r < 64
     · have e1 : Int.tdiv (r : Int) 64 = 0 := by rw [Int.tdiv_eq_ediv_of_nonneg (by omega)]; omega
       have e2 : Int.tmod (r : Int) 64 = (r : Int) := by rw [Int.tmod_eq_emod_of_nonneg (by omega)]; omega
       have hw0 : IntKind.i64.wrap 0 = 0 := by decide
       have hwp : IntKind.i64.wrap (r : Int) = (r : Int) := wrap_in (by omega) (by omega)
       have HE := Lib.hid (get_step (r := r) ha HAC.out hj64)
       have HST2 := Lib.hid (show numA (hasN a b) (l.take (j + 1)) = if a.testBit r then acc ||| 2 ^ j else acc by
         rw [HST.out]; unfold hasN; rw [if_pos h64, Nat.mod_eq_of_lt h64])
       go_wp2_with fail
       go_quiet (fail)
       go_wp2
       go_roundw
       case rel => exact ⟨j + 1, by omega, by go_num, by rw [HST2.out, ← HE.out], Fr.drewN HF.out _⟩
       case measure => simp [intOf]; omega
     · obtain ⟨s, rfl⟩ : ∃ s, r = 64 + s := ⟨r - 64, by omega⟩
       have e1 : Int.tdiv ((64 : Int) + (s : Int)) 64 = 1 := by rw [Int.tdiv_eq_ediv_of_nonneg (by omega)]; omega
       have e2 : Int.tmod ((64 : Int) + (s : Int)) 64 = (s : Int) := by rw [Int.tmod_eq_emod_of_nonneg (by omega)]; omega
       have hw0 : IntKind.i64.wrap 1 = 1 := by decide
       have hwp : IntKind.i64.wrap (s : Int) = (s : Int) := wrap_in (by omega) (by omega)
       have HE := Lib.hid (get_step (r := s) hb HAC.out hj64)
       have HST2 := Lib.hid (show numA (hasN a b) (l.take (j + 1)) = if b.testBit s then acc ||| 2 ^ j else acc by
         rw [HST.out]; unfold hasN; rw [if_neg h64, show (64 + s) % 64 = s by omega])
       go_wp2_with fail
       go_quiet (fail)
       go_wp2
       go_roundw
       case rel => exact ⟨j + 1, by omega, by go_num, by rw [HST2.out, ← HE.out], Fr.drewN HF.out _⟩
       case measure => simp [intOf]; omega
   · obtain rfl : j = l.length := by omega
     have HTT := Lib.hid (show numA (hasN a b) (l.take l.length) = T by rw [List.take_length]; exact HT.out)
     clear hj
     go_wp2
     go_ret
     exact ⟨by rw [← HTT.out]; rfl, HF1.out.call HF.out⟩
structure KB (b : Nat) (w w' : World) : Prop where
 below : Below b w w'
 keep : ∀ c, c ≠ b → w'.heap[c]? = w.heap[c]?
 size : w'.heap.size = w.heap.size
theorem KB.refl (b : Nat) (w : World) : KB b w w := ⟨Below.refl _ _, fun _ _ => rfl, rfl⟩
theorem KB.trans {b : Nat} {w v u : World} (h : KB b w v) (k : KB b v u) : KB b w u := ⟨Below.trans h.below k.below, fun c hc => (k.keep c hc).trans (h.keep c hc), k.size.trans h.size⟩
theorem KB.drewN {b : Nat} {w : World} (n : Nat) : KB b w (w.drewN n) := by
 have h : Fr w (w.drewN n) := Fr.drewN (Fr.refl w) n
 refine ⟨⟨h.os, h.tape, h.output, Nat.le_trans (Nat.le_refl _) h.size, fun c hc => ?_⟩, fun c hc => ?_, ?_⟩
 all_goals first | rfl | simp
theorem KB.set {b o : Nat} {w : World} (v : Value) : KB b w (w.setCell ⟨b, o, none⟩ v) := ⟨Below.setCell (Below.refl _ _) (Nat.le_refl b) v, fun c hc => Below.heap_setCell w ⟨b, o, none⟩ v c hc, by simp⟩
structure W2At (b : Nat) (w : World) (x : W2) : Prop where
 c0 : w.cell? ⟨b, 0, none⟩ = some (.int .u64 (x.1 : Int))
 c1 : w.cell? ⟨b, 1, none⟩ = some (.int .u64 (x.2 : Int))
 f0 : w.frozen? ⟨b, 0, none⟩ = false
 f1 : w.frozen? ⟨b, 1, none⟩ = false
theorem W2At.set {b : Nat} {w : World} {x : W2} (h : W2At b w x) (n : Nat) {q : Nat} (hq : q < 128) : W2At b ((w.drewN n).setCell ⟨b, 0 + q / 64, none⟩ (.int .u64 (addN (if q < 64 then x.1 else x.2) q : Int))) (setW x q) := by
 have k : Fr w (w.drewN n) := Fr.drewN (Fr.refl w) n
 have c0 := k.get h.c0
 have c1 := k.get h.c1
 have f0 := k.free h.c0 h.f0
 have f1 := k.free h.c1 h.f1
 generalize w.drewN n = v at *
 unfold setW
 by_cases h6 : q < 64
 · have e : 0 + q / 64 = 0 := by omega
   rw [e, if_pos h6, if_pos h6]
   exact ⟨World.cell?_setCell_same _ _ _ c0, by rw [World.cell?_setCell_other _ _ _ _ (by intro e; injection e with _ e; cases e)]; exact c1, by rw [World.frozen?_setCell]; exact f0, by rw [World.frozen?_setCell]; exact f1⟩
 · have e : 0 + q / 64 = 1 := by omega
   rw [e, if_neg h6, if_neg h6]
   exact ⟨by rw [World.cell?_setCell_other _ _ _ _ (by intro e; injection e with _ e; cases e)]; exact c0, World.cell?_setCell_same _ _ _ c1, by rw [World.frozen?_setCell]; exact f0, by rw [World.frozen?_setCell]; exact f1⟩
theorem putW_snoc : ∀ (l : List Int) (k e : Nat) (x : W2) (q : Int), putW (l ++ [q]) k e x = if e.testBit (k + l.length) then setW (putW l k e x) q.toNat else putW l k e x
 | [], k, e, x, q => by simp [putW]
 | p :: r, k, e, x, q => by
   show putW (r ++ [q]) (k + 1) e _ = _
   rw [putW_snoc r (k + 1) e _ q]
   simp only [List.length_cons, putW]
   rw [show k + 1 + r.length = k + (r.length + 1) by omega]
theorem putW_take {l : List Int} {j : Nat} (h : j < l.length) (e : Nat) (x : W2) : putW (l.take (j + 1)) 0 e x = if e.testBit j then setW (putW (l.take j) 0 e x) (l[j]).toNat else putW (l.take j) 0 e x := by
 rw [List.take_succ_eq_append_getElem h, putW_snoc, List.length_take, Nat.min_eq_left (Nat.le_of_lt h), Nat.zero_add]
theorem bit_eq {e j : Nat} (he : e < 18446744073709551616) : (bits .and .u64 ((e : Int) / 2 ^ j) 1 == 1) = e.testBit j := by
 rw [shr_nat, and_one (shr_lt he j), bit_mod]
 cases e.testBit j <;> simp
def RelPw (l : List Int) (e : Nat) (x : W2) (wb : Nat) (W : World) (i : Value) (wr : World) : Prop := ∃ j : Nat, j ≤ l.length ∧ i = .int .i64 (j : Int) ∧ KB wb W wr ∧ W2At wb wr (putW (l.take j) 0 e x)
set_option maxHeartbeats 6400000 in
set_option maxRecDepth 100000 in
theorem cputw_any {w : World} (wb : Nat) (x : W2) (hx1 : x.1 < 18446744073709551616) (hx2 : x.2 < 18446744073709551616) (hW : W2At wb w x) (e : Nat) (he : e < 18446744073709551616) {A : Option Addr} {l : List Int} (c : Nat) (h : RowOf IntC 1 w A l) (hl : l.length ≤ 64) (hp : ∀ q ∈ l, 0 ≤ q ∧ q < 128)
   (hA : ∀ b o, A = some ⟨b, o, none⟩ → b ≠ wb) :
   Calls Tryz.prog 32 #[.pointer (some ⟨wb, 0, none⟩), .slice A l.length c, .int .u64 (e : Int)] w fun en w' => en = .returned (.tuple #[]) ∧ KB wb w w' ∧ W2At wb w' (putW l 0 e x) := by
 have HR := Lib.hid h
 have HP := Lib.hid hp
 have HW := Lib.hid hW
 have HA := Lib.hid hA
 obtain ⟨T, hT⟩ : ∃ T, putW l 0 e x = T := ⟨_, rfl⟩
 have HT := Lib.hid hT
 rw [hT]
 clear h hp hW hT hA
 go_enter Tryz.func32, Tryz.ntmps32
 go_wp2_with fail
 go_loopw [9] (fun i wr => RelPw l e x wb w i wr) (fun i _ => l.length - (intOf i).toNat)
 case atStart => exact ⟨0, Nat.zero_le _, rfl, KB.refl _ _, by rw [List.take_zero]; exact HW.out⟩
 case round =>
   obtain ⟨j, hj, rfl, hk, hw2⟩ := hrel
   have HK := Lib.hid hk
   have HW2 := Lib.hid hw2
   clear hk hw2
   by_cases hlt : j < l.length
   · have hji : (j : Int) < (l.length : Int) := by omega
     have hj0 : (0 : Int) ≤ (j : Int) := by omega
     have hj64 : (j : Int) < 64 := by omega
     have HB := Lib.hid (bit_eq (j := j) he)
     have HST := Lib.hid (putW_take hlt e x)
     have HXL := Lib.hid (putW_lt (l.take j) 0 e x hx1 hx2)
     have hq := HP.out _ (List.getElem_mem hlt)
     obtain ⟨be, oe, rfl, hx⟩ := HR.out.at hlt
     unfold IntC at hx
     rw [Nat.one_mul] at hx
     have hne := HA.out be oe rfl
     have hx := (cell_of_heap (o := oe + j) (HK.out.keep be hne)).trans hx
     generalize l[j] = q at *
     obtain ⟨r, rfl⟩ : ∃ r : Nat, q = (r : Int) := ⟨q.toNat, by omega⟩
     rw [Int.toNat_natCast] at HST
     have hr : r < 128 := by omega
     generalize putW (l.take j) 0 e x = X at *
     obtain ⟨x0, x1⟩ := X
     have HS := Lib.hid (cset_any wb 0 x0 x1 HXL.out.1 HXL.out.2 r hr wr HW2.out.c0 HW2.out.c1 HW2.out.f0 HW2.out.f1)
     have HN := Lib.hid (fun n => W2At.set HW2.out n hr)
     have zx := lt_of_cell hx
     clear hr hq hne
     cases hb : e.testBit j with
     | true =>
       rw [hb] at HB HST
       have HB2 := HB.out
       go_wp2_with fail
       refine HS.out.mono ?_
       rintro en w2 ⟨rfl, n, rfl⟩
       have HK2 := Lib.hid (HK.out.trans (KB.trans (KB.drewN n) (KB.set (b := wb) (o := 0 + r / 64) (.int .u64 (addN (if r < 64 then x0 else x1) r : Int)))))
       have HN2 := Lib.hid (HN.out n)
       generalize World.setCell _ _ _ = W2 at *
       go_wp2
       go_roundw
       case rel => exact ⟨j + 1, by omega, by go_num, HK2.out, by rw [HST.out]; simpa using HN2.out⟩
       case measure => simp [intOf]; omega
     | false =>
       rw [hb] at HB HST
       have HB2 := HB.out
       go_wp2
       go_roundw
       case rel => exact ⟨j + 1, by omega, by go_num, HK.out, by rw [HST.out]; simpa using HW2.out⟩
       case measure => simp [intOf]; omega
   · obtain rfl : j = l.length := by omega
     have HTT := Lib.hid (show W2At wb wr T by have := HW2.out; rwa [List.take_length, HT.out] at this)
     clear hj
     go_wp2
     go_end0
     exact ⟨rfl, HK.out, HTT.out⟩
def ByC (w : World) (b o : Nat) (x : Nat) : Prop := x < 256 ∧ w.cell? ⟨b, o, none⟩ = some (.int .u8 (x : Int))
theorem ByC.fr {w w' : World} {b o x : Nat} (h : ByC w b o x) (k : Fr w w') : ByC w' b o x := ⟨h.1, k.get h.2⟩
def bitB (bs : List Nat) (p : Nat) : Bool := (bs.getD (p / 8) 0).testBit (p % 8)
def byteW (x : W2) (i : Nat) : Nat := (if i < 8 then x.1 else x.2) / 2 ^ (i % 8 * 8) % 256
def bytesW (x : W2) (n : Nat) : List Nat := (List.range n).map (byteW x)
theorem bytesW_len (x : W2) (n : Nat) : (bytesW x n).length = n := by simp [bytesW]
theorem bytesW_get (x : W2) {n i : Nat} (h : i < n) : (bytesW x n)[i]'(by rw [bytesW_len]; exact h) = byteW x i := by simp [bytesW]
theorem bytesW_bit (x : W2) {n p : Nat} (h : p < 8 * n) (hp : p < 128) : bitB (bytesW x n) p = hasW x p := by
 have hi : p / 8 < n := by omega
 unfold bitB
 rw [List.getD_eq_getElem?_getD, List.getElem?_eq_getElem (by rw [bytesW_len]; exact hi), Option.getD_some, bytesW_get x hi]
 unfold byteW hasW hasN
 rw [show (256 : Nat) = 2 ^ 8 by rfl, Nat.testBit_mod_two_pow, decide_eq_true (Nat.mod_lt p (by decide)), Bool.true_and, Nat.testBit_div_two_pow]
 by_cases h8 : p < 64
 · rw [if_pos (by omega), if_pos h8]
   congr 1; omega
 · rw [if_neg (by omega), if_neg h8]
   congr 1; omega
theorem byteW_lt (x : W2) (i : Nat) : byteW x i < 256 := Nat.mod_lt _ (by decide)
theorem Tryz.infoU8 : (Tryz.prog.info? 5).map (fun i => (i.zero, i.size, i.bytes)) = some (some (.int .u8 0), 1, 1) := by kernel_rfl
theorem mk_bytes (n : Nat) (hn : n ≤ 15) (w : World) : (Instr.makeSlice 34 (.int .i64 (n : Int)) (.int .i64 (n : Int))).run Tryz.prog w = .ok (.slice (some ⟨w.heap.size, 0, none⟩) n n) (w.alloc (.cells (madeCells #[.int .u8 0] n) 5)) := by
 obtain ⟨i, hi', hz0, hz1, hz2⟩ := info_parts Tryz.infoU8
 have := run_make (P := Tryz.prog) w 34 5 i _ Tryz.underlying34 hi' hz0 .i64 .i64 n n (by omega) (Int.le_refl _) (by rw [hz2]; omega) (by omega)
 rw [hz1] at this
 simpa [Value.cells] using this
def BlkB (g n j : Nat) (x : W2) (w : World) : Prop := ∀ k, k < n → w.cell? ⟨g, k, none⟩ = some (.int .u8 ((if k < j then byteW x k else 0 : Nat) : Int)) ∧ w.frozen? ⟨g, k, none⟩ = false
theorem BlkB.put {g n j : Nat} {x : W2} {w : World} (h : BlkB g n j x w) (hj : j < n) : BlkB g n (j + 1) x (w.setCell ⟨g, j, none⟩ (.int .u8 (byteW x j : Int))) := fun i hi => by
 refine ⟨?_, by rw [World.frozen?_setCell]; exact (h i hi).2⟩
 by_cases e : j = i
 · subst e
   rw [World.cell?_setCell_same _ _ _ (h j hj).1, if_pos (Nat.lt_succ_self j)]
 · rw [World.cell?_setCell_other _ _ _ _ (by intro e2; injection e2 with _ e2; exact e e2), (h i hi).1]
   by_cases h1 : i < j
   · rw [if_pos h1, if_pos (by omega)]
   · rw [if_neg h1, if_neg (by omega)]
theorem made_bytes (n : Nat) (x : W2) (w : World) : BlkB w.heap.size n 0 x (w.alloc (.cells (madeCells #[.int .u8 0] n) 5)) := fun k hk => by
 have hb := BlkAt.alloc (w := w) (t := 5) (cs := madeCells #[.int .u8 0] n)
 refine ⟨?_, World.frozen?_alloc_at _ _ _ _ rfl⟩
 rw [if_neg (by omega)]
 refine hb _ _ ?_
 have : k < (madeCells #[Value.int .u8 0] n).size := by rw [size_madeCells]; exact hk
 rw [Array.getElem?_toList, Array.getElem?_eq_getElem this]
 simp [madeCells, Nat.mod_one]
def RelBy (n g kb : Nat) (x : W2) (W : World) (i : Value) (wr : World) : Prop := ∃ j : Nat, j ≤ n ∧ i = .int .i64 (j : Int) ∧ Fr W wr ∧ BlkB g n j x wr ∧ g < wr.heap.size
set_option maxHeartbeats 6400000 in
set_option maxRecDepth 100000 in
theorem cbytes_any {w : World} (a b : Nat) (ha : a < 18446744073709551616) (hb : b < 18446744073709551616) (n : Nat) (hn : n ≤ 15) :
   Calls Tryz.prog 34 #[.agg #[.int .u64 (a : Int), .int .u64 (b : Int)], .int .i64 (n : Int)] w fun e w' => ∃ g, e = .returned (.slice (some ⟨g, 0, none⟩) n n) ∧ w.heap.size ≤ g ∧ RowOf ByC 1 w' (some ⟨g, 0, none⟩) (bytesW (a, b) n) ∧ Fr w w' := by
 have HB := Lib.hid (show BlkAt (w.alloc (.cells #[.int .u64 (a : Int), .int .u64 (b : Int)] 92)) w.heap.size [.int .u64 (a : Int), .int .u64 (b : Int)] from BlkAt.alloc)
 have HF1 := Lib.hid (show Fr w (w.alloc (.cells #[.int .u64 (a : Int), .int .u64 (b : Int)] 92)) from Fr.alloc (Fr.refl w) _)
 have HZ1 := Lib.hid (show (w.alloc (.cells #[.int .u64 (a : Int), .int .u64 (b : Int)] 92)).heap.size = w.heap.size + 1 by simp)
 have hn0 : (0 : Int) ≤ (n : Int) := by omega
 have hn15 : (n : Int) ≤ 15 := by omega
 have hm := mk_bytes n hn (w.alloc (.cells #[.int .u64 (a : Int), .int .u64 (b : Int)] 92))
 have HM := Lib.hid (made_bytes n (a, b) (w.alloc (.cells #[.int .u64 (a : Int), .int .u64 (b : Int)] 92)))
 have HF2 := Lib.hid (Fr.alloc (Fr.refl (w.alloc (.cells #[.int .u64 (a : Int), .int .u64 (b : Int)] 92))) (.cells (madeCells #[.int .u8 0] n) 5))
 have HZ2 := Lib.hid (show ((w.alloc (.cells #[.int .u64 (a : Int), .int .u64 (b : Int)] 92)).alloc (.cells (madeCells #[.int .u8 0] n) 5)).heap.size = w.heap.size + 2 by simp)
 go_enter Tryz.func34, Tryz.ntmps34
 go_wp2_with fail
 generalize World.alloc w _ = W1 at *
 generalize World.alloc W1 _ = W2 at *
 clear hm
 rw [HZ1.out] at HM
 obtain ⟨kb, hkb⟩ : ∃ kb, w.heap.size = kb := ⟨_, rfl⟩
 have HKB := Lib.hid hkb
 rw [hkb] at HB HM HZ1 HZ2
 rw [hkb]
 clear hkb
 go_loopw [10] (fun i wr => RelBy n (kb + 1) kb (a, b) W1 i wr) (fun i _ => n - (intOf i).toNat)
 case atStart => exact ⟨0, Nat.zero_le _, rfl, HF2.out, HM.out, by rw [HZ2.out]; omega⟩
 case round =>
   obtain ⟨j, hj, rfl, hf, hbk, hgl⟩ := hrel
   have HF := Lib.hid hf
   have HBK := Lib.hid hbk
   have HGL := Lib.hid hgl
   clear hf hbk hgl
   by_cases hlt : j < n
   · have hji : (j : Int) < (n : Int) := by omega
     have hj0 : (0 : Int) ≤ (j : Int) := by omega
     have b0 := HB.out.fr HF.out 0 _ rfl
     have b1 := HB.out.fr HF.out 1 _ rfl
     have c0 := (HBK.out j hlt).1
     have f0 := (HBK.out j hlt).2
     have zb := lt_of_cell b0
     have zg := HGL.out
     have HPT := Lib.hid (HBK.out.put hlt)
     have HFS := Lib.hid (Fr.set (w := W1) HF.out (p := ⟨kb + 1, j, none⟩) (by rw [HZ1.out]; exact Nat.le_refl _) (.int .u8 (byteW (a, b) j : Int)))
     by_cases h8 : j < 8
     · have e1 : Int.tdiv (j : Int) 8 = 0 := by rw [Int.tdiv_eq_ediv_of_nonneg (by omega)]; omega
       have e2 : Int.tmod (j : Int) 8 = (j : Int) := by rw [Int.tmod_eq_emod_of_nonneg (by omega)]; omega
       have hw0 : IntKind.i64.wrap 0 = 0 := by decide
       have hwp : IntKind.i64.wrap (j : Int) = (j : Int) := wrap_in (by omega) (by omega)
       have hwm : IntKind.i64.wrap ((j : Int) * 8) = ((j * 8 : Nat) : Int) := by rw [show (j : Int) * 8 = ((j * 8 : Nat) : Int) by omega]; exact wrap_in (by omega) (by omega)
       have hv : (a : Int) / 2 ^ (min (j * 8) 64) % 256 = (byteW (a, b) j : Int) := by
         rw [Nat.min_eq_left (by omega), shr_nat, show (256 : Int) = ((256 : Nat) : Int) by rfl, ← Int.natCast_emod]; unfold byteW; rw [if_pos h8, Nat.mod_eq_of_lt h8]
       generalize byteW (a, b) j = y at *
       obtain ⟨m, hm⟩ : ∃ m, j * 8 = m := ⟨_, rfl⟩
       rw [hm] at hwm hv
       clear hm
       go_wp2
       generalize World.setCell wr _ _ = W3 at *
       go_roundw
       case rel => exact ⟨j + 1, by omega, by go_num, HFS.out, HPT.out, lt_of_cell (HPT.out _ hlt).1⟩
       case measure => simp [intOf]; omega
     · obtain ⟨s, rfl⟩ : ∃ s, j = 8 + s := ⟨j - 8, by omega⟩
       have e1 : Int.tdiv ((8 : Int) + (s : Int)) 8 = 1 := by rw [Int.tdiv_eq_ediv_of_nonneg (by omega)]; omega
       have e2 : Int.tmod ((8 : Int) + (s : Int)) 8 = (s : Int) := by rw [Int.tmod_eq_emod_of_nonneg (by omega)]; omega
       have hw0 : IntKind.i64.wrap 1 = 1 := by decide
       have hwp : IntKind.i64.wrap (s : Int) = (s : Int) := wrap_in (by omega) (by omega)
       have hwm : IntKind.i64.wrap ((s : Int) * 8) = ((s * 8 : Nat) : Int) := by rw [show (s : Int) * 8 = ((s * 8 : Nat) : Int) by omega]; exact wrap_in (by omega) (by omega)
       have hv : (b : Int) / 2 ^ (min (s * 8) 64) % 256 = (byteW (a, b) (8 + s) : Int) := by
         rw [Nat.min_eq_left (by omega), shr_nat, show (256 : Int) = ((256 : Nat) : Int) by rfl, ← Int.natCast_emod]; unfold byteW; rw [if_neg h8, show (8 + s) % 8 = s by omega]
       generalize byteW (a, b) (8 + s) = y at *
       obtain ⟨m, hm⟩ : ∃ m, s * 8 = m := ⟨_, rfl⟩
       rw [hm] at hwm hv
       clear hm
       go_wp2
       generalize World.setCell wr _ _ = W3 at *
       go_roundw
       case rel => exact ⟨8 + s + 1, by omega, by go_num, HFS.out, HPT.out, lt_of_cell (HPT.out _ hlt).1⟩
       case measure => simp [intOf]; omega
   · obtain rfl : j = n := by omega
     clear hj
     go_wp2
     go_ret
     exact ⟨kb + 1, rfl, by have := HKB.out; omega, fun _ => ⟨kb + 1, 0, rfl, fun i hi => by
       have hi2 : i < j := by rw [bytesW_len] at hi; exact hi
       have := (HBK.out i hi2).1
       rw [if_pos hi2] at this
       rw [bytesW_get _ hi2, Nat.zero_add, Nat.one_mul]
       exact ⟨byteW_lt _ _, this⟩⟩, HF1.out.call HF.out⟩
def valO (D : Ds) (β : Nat → Bool) (x : Int × List Int) : Int := valI (clO D x).1 (numA β x.2)
def excO (D : Ds) (β : Nat → Bool) (x : Int × List Int) : Bool := (clO D x).1.ex.contains (valO D β x)
def OpsOk (D : Ds) (ops : List (Int × List Int)) : Prop := ∀ x ∈ ops, 0 ≤ x.1 ∧ x.1 < D.cls.length ∧ x.2.length ≤ 64 ∧ (x.2.length : Int) = (clO D x).1.bits ∧ clsB D (clO D x).1 = true ∧ (∀ q ∈ x.2, 0 ≤ q ∧ q < 128)
theorem ops_ok {D : Ds} {args : List Int} {pcs : List Pc} (hp : patN D args pcs ≠ 0) : OpsOk D (layCD D args pcs).ops := by
 have h1 := (pat_sum hp).1
 unfold opsB at h1
 rw [Bool.and_eq_true] at h1
 intro x hx
 obtain ⟨k, hk, rfl⟩ := List.mem_iff_getElem.1 hx
 have hka : k < args.length := by rw [← cf_len D args pcs]; exact hk
 obtain ⟨l, e1, e2, e3⟩ := cf_ops hp hka
 rw [List.getElem?_eq_getElem hk] at e1
 have e1 := Option.some.inj e1
 obtain ⟨c, g1, g2, g3, g4, g5, g6, g7⟩ := cls_of h1.2 hka
 have hcl : (clO D (layCD D args pcs).ops[k]).1 = c := by
   rw [e1]; unfold clO; simp only; rw [g1]; rfl
 rw [hcl]
 refine ⟨by rw [e1]; exact g6, by rw [e1]; exact g7, by rw [e1]; simp only; omega, by rw [e1]; simp only; omega, g2, cf_places hp _ hx⟩
def IntG (g : Nat) (w : World) (V : List Int) : Prop := ∀ k (h : k < V.length), w.cell? ⟨g, k, none⟩ = some (.int .i64 V[k]) ∧ w.frozen? ⟨g, k, none⟩ = false
theorem IntG.fr {g : Nat} {w w' : World} {V : List Int} (h : IntG g w V) (k : Fr w w') : IntG g w' V := fun i hi => ⟨k.get (h i hi).1, k.free (h i hi).1 (h i hi).2⟩
theorem IntG.put {g : Nat} {w : World} {V : List Int} (h : IntG g w V) {k : Nat} (hk : k < V.length) (x : Int) : IntG g (w.setCell ⟨g, k, none⟩ (.int .i64 x)) (V.set k x) := fun i hi => by
 have hi' : i < V.length := by simpa using hi
 refine ⟨?_, by rw [World.frozen?_setCell]; exact (h i hi').2⟩
 by_cases e : k = i
 · subst e
   rw [List.getElem_set_self]; exact World.cell?_setCell_same _ _ _ (h k hk).1
 · rw [List.getElem_set_ne e, World.cell?_setCell_other _ _ _ _ (by intro e2; injection e2 with _ e2; exact e e2)]; exact (h i hi').1
theorem made_intG (n : Nat) (w : World) : IntG w.heap.size (w.alloc (.cells (madeCells #[.int .i64 0] n) 3)) (List.replicate n 0) := fun k hk => by
 have hk' : k < n := by simpa using hk
 have hb := BlkAt.alloc (w := w) (t := 3) (cs := madeCells #[.int .i64 0] n)
 refine ⟨?_, World.frozen?_alloc_at _ _ _ _ rfl⟩
 rw [List.getElem_replicate]
 refine hb _ _ ?_
 have : k < (madeCells #[Value.int .i64 0] n).size := by rw [size_madeCells]; exact hk'
 rw [Array.getElem?_toList, Array.getElem?_eq_getElem this]
 simp [madeCells, Nat.mod_one]
def valsJ (D : Ds) (β : Nat → Bool) (ops : List (Int × List Int)) (j : Nat) : List Int := (ops.take j).map (valO D β) ++ List.replicate (ops.length - j) 0
theorem valsJ_len (D : Ds) (β : Nat → Bool) (ops : List (Int × List Int)) {j : Nat} (h : j ≤ ops.length) : (valsJ D β ops j).length = ops.length := by
 unfold valsJ; simp; omega
theorem valsJ_set (D : Ds) (β : Nat → Bool) (ops : List (Int × List Int)) {j : Nat} (h : j < ops.length) : (valsJ D β ops j).set j (valO D β ops[j]) = valsJ D β ops (j + 1) := by
 unfold valsJ
 have hl : ((ops.take j).map (valO D β)).length = j := by simp; omega
 rw [List.set_append_right _ _ (by rw [hl]; exact Nat.le_refl _), hl, Nat.sub_self, show ops.length - j = (ops.length - (j + 1)) + 1 by omega, List.replicate_succ, List.set_cons_zero, List.take_succ_eq_append_getElem h, List.map_append, List.append_assoc]
 rfl
def RelVa (D : Ds) (β : Nat → Bool) (ops : List (Int × List Int)) (g : Nat) (W : World) (i : Value) (wr : World) : Prop := ∃ j : Nat, j ≤ ops.length ∧ i = .int .i64 (j : Int) ∧ Below g W wr ∧ g < wr.heap.size ∧ IntG g wr (valsJ D β ops j) ∧ ∀ x ∈ ops.take j, excO D β x = false
def ValsP (D : Ds) (β : Nat → Bool) (ops : List (Int × List Int)) (w : World) (e : Ending) (w' : World) : Prop :=
 ((∃ x ∈ ops, excO D β x = true) ∧ e = .returned (.tuple #[.slice none 0 0, .bool false]) ∧ Fr w w') ∨
 ((∀ x ∈ ops, excO D β x = false) ∧ ∃ g, w.heap.size ≤ g ∧ e = .returned (.tuple #[.slice (some ⟨g, 0, none⟩) ops.length ops.length, .bool true]) ∧ RowOf IntC 1 w' (some ⟨g, 0, none⟩) (ops.map (valO D β)) ∧ Fr w w')
set_option maxHeartbeats 12800000 in
set_option maxRecDepth 100000 in
theorem cvals_any {w : World} {p fb fo : Nat} {D : Ds} (hC : CodecAt w p D) (hX : ∀ c ∈ D.cls, c.ex.length ≤ 1048576) {f : Cf} (hf : CfRd w fb fo f) (hO : OpsOk D f.ops) (h6 : f.ops.length ≤ 6) (a b : Nat) (ha : a < 18446744073709551616) (hb : b < 18446744073709551616) :
   Calls Tryz.prog 39 #[.pointer (some ⟨p, 0, none⟩), .pointer (some ⟨fb, fo, none⟩), .agg #[.int .u64 (a : Int), .int .u64 (b : Int)]] w fun e w' => ValsP D (hasN a b) f.ops w e w' := by
 obtain ⟨CA, FA, cc, fc, hcb, hc, _⟩ := hC
 obtain ⟨OA, on, hfc, hor⟩ := hf
 have c6 := hfc 6 _ rfl
 have HCB := Lib.hid hcb
 have HC := Lib.hid hc
 have HOR := Lib.hid hor
 have HO := Lib.hid hO
 have HXL := Lib.hid hX
 have HB := Lib.hid (show BlkAt (w.alloc (.cells #[.int .u64 (a : Int), .int .u64 (b : Int)] 92)) w.heap.size [.int .u64 (a : Int), .int .u64 (b : Int)] from BlkAt.alloc)
 have HF1 := Lib.hid (show Fr w (w.alloc (.cells #[.int .u64 (a : Int), .int .u64 (b : Int)] 92)) from Fr.alloc (Fr.refl w) _)
 have c6 := HF1.out.get c6
 have zf := lt_of_cell c6
 obtain ⟨n, hn⟩ : ∃ n, f.ops.length = n := ⟨_, rfl⟩
 have HN := Lib.hid hn
 rw [hn] at c6 h6
 have hn0 : (0 : Int) ≤ (n : Int) := by omega
 have hn64 : (n : Int) ≤ 64 := by omega
 have hm := mk_ints n (by omega) (w.alloc (.cells #[.int .u64 (a : Int), .int .u64 (b : Int)] 92))
 have HM := Lib.hid (made_intG n (w.alloc (.cells #[.int .u64 (a : Int), .int .u64 (b : Int)] 92)))
 have HF2 := Lib.hid (Fr.alloc (Fr.refl (w.alloc (.cells #[.int .u64 (a : Int), .int .u64 (b : Int)] 92))) (.cells (madeCells #[.int .i64 0] n) 3))
 have HZ1 := Lib.hid (show (w.alloc (.cells #[.int .u64 (a : Int), .int .u64 (b : Int)] 92)).heap.size = w.heap.size + 1 by simp)
 have HZ2 := Lib.hid (show ((w.alloc (.cells #[.int .u64 (a : Int), .int .u64 (b : Int)] 92)).alloc (.cells (madeCells #[.int .i64 0] n) 3)).heap.size = w.heap.size + 2 by simp)
 have c62 := HF2.out.get c6
 clear hX hO hc hor hcb hfc hn
 go_enter Tryz.func39, Tryz.ntmps39
 go_wp2_with fail
 generalize World.alloc w _ = W1 at *
 generalize World.alloc W1 _ = W2 at *
 clear hm c6 zf
 rw [HZ1.out] at HM
 obtain ⟨kb, hkb⟩ : ∃ kb, w.heap.size = kb := ⟨_, rfl⟩
 have HKB := Lib.hid hkb
 rw [hkb] at HB HM HZ1 HZ2
 (try simp only [hkb])
 clear hkb
 clear c62
 go_loopw [23] (fun i wr => RelVa D (hasN a b) f.ops (kb + 1) W2 i wr) (fun i _ => n - (intOf i).toNat)
 case atStart =>
   refine ⟨0, Nat.zero_le _, rfl, Below.refl _ _, by rw [HZ2.out]; omega, ?_, by simp⟩
   unfold valsJ
   rw [List.take_zero, List.map_nil, List.nil_append, Nat.sub_zero, HN.out]
   exact HM.out
 case round =>
   obtain ⟨j, hj, rfl, hbw, hgl, hig, hex⟩ := hrel
   have HBW := Lib.hid hbw
   have HGL := Lib.hid hgl
   have HIG := Lib.hid hig
   have HEX := Lib.hid hex
   clear hbw hgl hig hex
   have HFW := Lib.hid (show Fr w wr from (HF1.out.call HF2.out).below HBW.out (by have := HKB.out; omega))
   have hn9 := HN.out
   by_cases hlt : j < f.ops.length
   · have hji : (j : Int) < (n : Int) := by omega
     have hj0 : (0 : Int) ≤ (j : Int) := by omega
     have HTK := Lib.hid (show f.ops.take (j + 1) = f.ops.take j ++ [f.ops[j]] from List.take_succ_eq_append_getElem hlt)
     have HST := Lib.hid (valsJ_set D (hasN a b) f.ops hlt)
     have HJL := Lib.hid (valsJ_len D (hasN a b) f.ops (Nat.le_of_lt hlt))
     have HMEM := Lib.hid (List.getElem_mem hlt)
     have hxo := HO.out _ (List.getElem_mem hlt)
     obtain ⟨bo, oo, rfl, hx⟩ := HOR.out.at hlt
     rw [Nat.mul_comm 2 j] at hx
     obtain ⟨xo, hxo9⟩ : ∃ xo, f.ops[j] = xo := ⟨_, rfl⟩
     rw [hxo9] at hx hxo HST HTK HMEM
     clear hxo9
     obtain ⟨x1, x2⟩ := xo
     obtain ⟨hx1, A, oc, hoc, hx2, hrow⟩ := hx
     obtain ⟨k0, k1, k2, k3, k4, k5⟩ := hxo
     simp only at hx1 hoc hx2 hrow k0 k1 k2 k3 k5
     obtain ⟨ci, rfl⟩ : ∃ ci : Nat, x1 = (ci : Int) := ⟨x1.toNat, by omega⟩
     have hci : ci < D.cls.length := by omega
     have hcii : (ci : Int) < (D.cls.length : Int) := by omega
     have hci0 : (0 : Int) ≤ (ci : Int) := by omega
     have hcl : (clO D ((ci : Int), x2)).1 = D.cls[ci] := by unfold clO; simp only [Int.toNat_natCast, List.getElem?_eq_getElem hci, Option.getD_some]
     have HVO := Lib.hid (show valO D (hasN a b) ((ci : Int), x2) = valI D.cls[ci] (numA (hasN a b) x2) by unfold valO; rw [hcl])
     have HEO := Lib.hid (show excO D (hasN a b) ((ci : Int), x2) = (D.cls[ci]).ex.contains (valI D.cls[ci] (numA (hasN a b) x2)) by unfold excO; rw [hcl, HVO.out])
     rw [hcl] at k3 k4
     have hxl := HXL.out _ (List.getElem_mem hci)
     obtain ⟨bq, oq, rfl, hcc⟩ := HC.out.at hci
     rw [Nat.mul_comm 5 ci] at hcc
     generalize D.cls[ci] = cl at *
     have HGET := Lib.hid (fun (w1 : World) (k : Fr w w1) => cget_any a b ha hb oc (hrow.fr fun _ _ _ x => IntC.fr x k) k2 k5)
     have hnum : numA (hasN a b) x2 < 2 ^ cl.bits.toNat := numA_len (by omega)
     have HVAL := Lib.hid (fun (w1 : World) (k : Fr w w1) => cvalue_any k4 (hcc.fr k) hnum)
     obtain ⟨num, hnm⟩ : ∃ num, numA (hasN a b) x2 = num := ⟨_, rfl⟩
     rw [hnm] at HGET HVAL HVO HEO
     clear hnm hnum
     obtain ⟨v, hv9⟩ : ∃ v, valI cl num = v := ⟨_, rfl⟩
     rw [hv9] at HVAL HVO HEO
     clear hv9
     obtain ⟨CE, cen, hcell, hcrow⟩ := hcc
     have HEXC := Lib.hid (fun (w1 : World) (k : Fr w w1) => excepts_any bq (oq + ci * 5) cen v (k.get (hcell 4 _ rfl)) (hcrow.fr fun _ _ _ x => IntC.fr x k) (Nat.le_trans hxl (by decide)))
     generalize cl.ex.contains v = y at *
     have HQ0 := Lib.hid (HCB.out 0 _ rfl)
     have hx1 := HFW.out.get hx1
     have hx2 := HFW.out.get hx2
     have zx := lt_of_cell hx1
     have HF3 := Lib.hid (show Fr wr (wr.alloc (.cells #[.int .i64 (ci : Int), .slice A x2.length oc] 100)) from Fr.alloc (Fr.refl wr) _)
     have HB3 := Lib.hid (BlkAt.alloc (w := wr) (t := 100) (cs := #[.int .i64 (ci : Int), .slice A x2.length oc]))
     clear hcell hcrow hrow k0 k1 k2 k3 k4 k5 hcl hxl hoc
     go_wp2_with fail
     generalize World.alloc wr _ = W3 at *
     have HFW3 := Lib.hid (HFW.out.call HF3.out)
     have q0 := HFW3.out.get HQ0.out
     have o0 := HB3.out 0 _ rfl
     have zq := lt_of_cell q0
     have zo := lt_of_cell o0
     clear hx1 hx2 zx
     go_quiet (fail)
     rename_i nq
     have HF4 := Lib.hid (show Fr W3 (W3.drewN nq) from Fr.drewN (Fr.refl _) _)
     clear q0 o0 zq zo
     generalize W3.drewN nq = W4 at *
     have b0 := HB.out.fr (HF2.out.below HBW.out (by have := HZ1.out; omega) |>.call (HF3.out.call HF4.out)) 0 _ rfl
     have b1 := HB.out.fr (HF2.out.below HBW.out (by have := HZ1.out; omega) |>.call (HF3.out.call HF4.out)) 1 _ rfl
     have o1 := HF4.out.get (HB3.out 1 _ rfl)
     have zb := lt_of_cell b0
     have zo := lt_of_cell o1
     go_wp2_with fail
     refine (HGET.out _ (HFW3.out.call HF4.out)).mono ?_
     rintro e w5 ⟨rfl, hf5⟩
     go_wp2_with fail
     refine (HVAL.out _ ((HFW3.out.call HF4.out).call hf5)).mono ?_
     rintro e w6 ⟨rfl, hf6⟩
     have HF6 := Lib.hid ((HF3.out.call HF4.out).call (hf5.call hf6))
     clear hf5 hf6 b0 b1 o1 zb zo
     have hjv : j < (valsJ D (hasN a b) f.ops j).length := by rw [HJL.out]; exact hlt
     have HIG6 := Lib.hid (HIG.out.fr HF6.out)
     have c0 := (HIG6.out j hjv).1
     have f0 := (HIG6.out j hjv).2
     have HPT := Lib.hid (HIG6.out.put hjv v)
     have zg := lt_of_cell c0
     have HFS := Lib.hid (show Below (kb + 1) W2 (w6.setCell ⟨kb + 1, j, none⟩ (.int .i64 v)) from Below.setCell (Below.trans HBW.out (Below.mono HF6.out (by have := HGL.out; omega))) (Nat.le_refl _) _)
     have HFWS := Lib.hid (show Fr w (w6.setCell ⟨kb + 1, j, none⟩ (.int .i64 v)) from Fr.set (HFW.out.call HF6.out) (by have := HKB.out; simp only; omega) _)
     have HZS := Lib.hid (show kb + 1 < (w6.setCell ⟨kb + 1, j, none⟩ (.int .i64 v)).heap.size by simpa using zg)
     have HCS := Lib.hid (World.cell?_setCell_same w6 ⟨kb + 1, j, none⟩ (.int .i64 v) c0)
     have HPT2 := Lib.hid (show IntG (kb + 1) (w6.setCell ⟨kb + 1, j, none⟩ (.int .i64 v)) (valsJ D (hasN a b) f.ops (j + 1)) by
       have h := HPT.out
       rw [← HST.out, HVO.out]; exact h)
     clear HPT
     go_wp2_with fail
     refine (HEXC.out _ HFWS.out).mono ?_
     rintro e w8 ⟨rfl, rfl⟩
     generalize World.setCell w6 _ _ = W7 at *
     cases y with
     | true =>
       go_wp2
       go_ret2
       exact .inl ⟨⟨_, HMEM.out, by first | exact HEO.out | simpa using HEO.out⟩, rfl, HFWS.out⟩
     | false =>
       have HXN := Lib.hid (show ∀ x ∈ f.ops.take (j + 1), excO D (hasN a b) x = false from fun x hx => by
         rw [HTK.out] at hx
         rcases List.mem_append.1 hx with hx | hx
         · exact HEX.out x hx
         · obtain rfl := List.mem_singleton.1 hx
           first | exact HEO.out | simpa using HEO.out)
       go_wp2
       go_roundw
       case rel => exact ⟨j + 1, by omega, by go_num, HFS.out, HZS.out, HPT2.out, HXN.out⟩
       case measure => simp [intOf]; omega
   · obtain rfl : j = f.ops.length := by omega
     have HAL := Lib.hid (show ∀ x ∈ f.ops, excO D (hasN a b) x = false from fun x hx => HEX.out x (by rw [List.take_length]; exact hx))
     have HRW := Lib.hid (show RowOf IntC 1 wr (some ⟨kb + 1, 0, none⟩) (f.ops.map (valO D (hasN a b))) from fun _ => ⟨kb + 1, 0, rfl, fun i hi => by
       have h := HIG.out
       unfold valsJ at h
       rw [List.take_length, Nat.sub_self, List.replicate_zero, List.append_nil] at h
       have := (h i hi).1
       rw [Nat.zero_add, Nat.one_mul]; exact this⟩)
     have hnl : ¬ (f.ops.length < f.ops.length) := Nat.lt_irrefl _
     clear hj
     rw [HN.out] at hlt
     have hni : ¬ ((n : Int) < (n : Int)) := by omega
     rw [HN.out]
     go_wp2
     go_ret2
     exact .inr ⟨HAL.out, kb + 1, by have := HKB.out; omega, by rw [HN.out]; rfl, HRW.out, HFW.out⟩
def wordP (x : W2) (j b : Nat) : W2 := if j < 8 then (x.1 ||| b * 2 ^ (j * 8), x.2) else (x.1, x.2 ||| b * 2 ^ ((j - 8) * 8))
def wordsL : List Nat → Nat → W2 → W2
 | [], _, x => x
 | b :: r, j, x => wordsL r (j + 1) (wordP x j b)
theorem wordsL_snoc : ∀ (l : List Nat) (j : Nat) (x : W2) (b : Nat), wordsL (l ++ [b]) j x = wordP (wordsL l j x) (j + l.length) b
 | [], j, x, b => by simp [wordsL]
 | a :: r, j, x, b => by
   show wordsL (r ++ [b]) (j + 1) _ = _
   rw [wordsL_snoc r (j + 1)]
   simp only [List.length_cons, wordsL]
   rw [show j + 1 + r.length = j + (r.length + 1) by omega]
theorem wordsL_take {l : List Nat} {j : Nat} (h : j < l.length) : wordsL (l.take (j + 1)) 0 (0, 0) = wordP (wordsL (l.take j) 0 (0, 0)) j l[j] := by
 rw [List.take_succ_eq_append_getElem h, wordsL_snoc, List.length_take, Nat.min_eq_left (Nat.le_of_lt h), Nat.zero_add]
theorem mul_pow_bit (b s i : Nat) (hb : b < 256) : (b * 2 ^ s).testBit i = (decide (s ≤ i ∧ i < s + 8) && b.testBit (i - s)) := by
 rw [Nat.mul_comm, Nat.testBit_two_pow_mul]
 by_cases h1 : s ≤ i
 · by_cases h2 : i < s + 8
   · simp [h1, h2]
   · have : b.testBit (i - s) = false := Nat.testBit_lt_two_pow (Nat.lt_of_lt_of_le hb (by
       have : 2 ^ 8 ≤ 2 ^ (i - s) := Nat.pow_le_pow_right (by decide) (by omega)
       simpa using this))
     simp [this]
 · simp [h1]
theorem wordP_has (x : W2) {j b p : Nat} (hj : j < 16) (hb : b < 256) (hp : p < 128) : hasW (wordP x j b) p = (hasW x p || (decide (p / 8 = j) && b.testBit (p % 8))) := by
 unfold hasW hasN wordP
 by_cases h8 : j < 8
 · rw [if_pos h8]
   by_cases h64 : p < 64
   · simp only [h64, if_true]
     rw [Nat.testBit_or, mul_pow_bit _ _ _ hb, Nat.mod_eq_of_lt h64]
     congr 1
     by_cases e : p / 8 = j
     · rw [decide_eq_true (show j * 8 ≤ p ∧ p < j * 8 + 8 by omega), decide_eq_true e, show p - j * 8 = p % 8 by omega]
     · rw [decide_eq_false (show ¬ (j * 8 ≤ p ∧ p < j * 8 + 8) by omega), decide_eq_false e]; rfl
   · simp only [h64, if_false]
     rw [decide_eq_false (by omega)]; simp
 · rw [if_neg h8]
   by_cases h64 : p < 64
   · simp only [h64, if_true]
     rw [decide_eq_false (by omega)]; simp
   · simp only [h64, if_false]
     rw [Nat.testBit_or, mul_pow_bit _ _ _ hb]
     congr 1
     by_cases e : p / 8 = j
     · rw [decide_eq_true (show (j - 8) * 8 ≤ p % 64 ∧ p % 64 < (j - 8) * 8 + 8 by omega), decide_eq_true e, show p % 64 - (j - 8) * 8 = p % 8 by omega]
     · rw [decide_eq_false (show ¬ ((j - 8) * 8 ≤ p % 64 ∧ p % 64 < (j - 8) * 8 + 8) by omega), decide_eq_false e]; rfl
theorem wordsL_has : ∀ (l : List Nat) (j : Nat) (x : W2) (p : Nat), j + l.length ≤ 16 → (∀ b ∈ l, b < 256) → p < 128 → hasW (wordsL l j x) p = (hasW x p || (decide (j ≤ p / 8 ∧ p / 8 < j + l.length) && (l.getD (p / 8 - j) 0).testBit (p % 8)))
 | [], j, x, p, _, _, _ => by
   have : ¬ (j ≤ p / 8 ∧ p / 8 < j + ([] : List Nat).length) := by simp
   rw [decide_eq_false this]; simp [wordsL]
 | b :: r, j, x, p, hl, hb, hp => by
   simp only [List.length_cons] at hl
   show hasW (wordsL r (j + 1) (wordP x j b)) p = _
   rw [wordsL_has r (j + 1) _ p (by omega) (fun y hy => hb y (by simp [hy])) hp, wordP_has x (by omega) (hb b (by simp)) hp, Bool.or_assoc]
   congr 1
   simp only [List.length_cons]
   by_cases e : p / 8 = j
   · rw [decide_eq_true e, decide_eq_false (show ¬ (j + 1 ≤ p / 8 ∧ p / 8 < j + 1 + r.length) by omega), decide_eq_true (show j ≤ p / 8 ∧ p / 8 < j + (r.length + 1) by omega), e, Nat.sub_self]
     simp
   · rw [decide_eq_false e, Bool.false_and, Bool.false_or]
     by_cases h1 : j + 1 ≤ p / 8 ∧ p / 8 < j + 1 + r.length
     · rw [decide_eq_true h1, decide_eq_true (show j ≤ p / 8 ∧ p / 8 < j + (r.length + 1) by omega), show p / 8 - j = (p / 8 - (j + 1)) + 1 by omega]
       simp
     · rw [decide_eq_false h1, decide_eq_false (show ¬ (j ≤ p / 8 ∧ p / 8 < j + (r.length + 1)) by omega)]; simp
def wordsN (bs : List Nat) : W2 := wordsL (bs.take 15) 0 (0, 0)
theorem wordsN_bit {bs : List Nat} (hb : ∀ b ∈ bs, b < 256) {p : Nat} (hp : p < 128) : hasW (wordsN bs) p = (decide (p < 8 * min bs.length 15) && bitB bs p) := by
 unfold wordsN
 rw [wordsL_has _ 0 (0, 0) p (by rw [List.length_take]; omega) (fun b h => hb b (List.mem_of_mem_take h)) hp]
 have h0 : hasW (0, 0) p = false := by unfold hasW hasN; split <;> simp
 rw [h0, Bool.false_or, Nat.zero_add, Nat.sub_zero, List.length_take]
 unfold bitB
 by_cases h1 : p / 8 < min 15 bs.length
 · rw [decide_eq_true (show 0 ≤ p / 8 ∧ p / 8 < min 15 bs.length from ⟨Nat.zero_le _, h1⟩), decide_eq_true (show p < 8 * min bs.length 15 by omega)]
   simp only [Bool.true_and, List.getD_eq_getElem?_getD]
   rw [List.getElem?_take_of_lt (by omega)]
 · rw [decide_eq_false (show ¬ (0 ≤ p / 8 ∧ p / 8 < min 15 bs.length) from fun h => h1 h.2), decide_eq_false (show ¬ p < 8 * min bs.length 15 by omega)]; rfl
theorem wordP_lt {x : W2} (h1 : x.1 < 18446744073709551616) (h2 : x.2 < 18446744073709551616) {j b : Nat} (hj : j < 16) (hb : b < 256) : (wordP x j b).1 < 18446744073709551616 ∧ (wordP x j b).2 < 18446744073709551616 := by
 have key : ∀ s, s ≤ 7 → b * 2 ^ (s * 8) < 18446744073709551616 := fun s hs => by
   have e : 2 ^ (s * 8) ≤ 2 ^ 56 := Nat.pow_le_pow_right (by decide) (by omega)
   have : b * 2 ^ (s * 8) ≤ 255 * 2 ^ 56 := Nat.mul_le_mul (by omega) e
   omega
 unfold wordP
 split
 · exact ⟨Nat.or_lt_two_pow (n := 64) h1 (key j (by omega)), h2⟩
 · exact ⟨h1, Nat.or_lt_two_pow (n := 64) h2 (key (j - 8) (by omega))⟩
theorem wordsL_lt : ∀ (l : List Nat) (j : Nat) (x : W2), j + l.length ≤ 16 → (∀ b ∈ l, b < 256) → x.1 < 18446744073709551616 → x.2 < 18446744073709551616 → (wordsL l j x).1 < 18446744073709551616 ∧ (wordsL l j x).2 < 18446744073709551616
 | [], _, _, _, _, h1, h2 => ⟨h1, h2⟩
 | b :: r, j, x, hl, hb, h1, h2 => by
   simp only [List.length_cons] at hl
   have := wordP_lt h1 h2 (show j < 16 by omega) (hb b (by simp))
   exact wordsL_lt r (j + 1) _ (by omega) (fun y hy => hb y (by simp [hy])) this.1 this.2
theorem wordsN_lt {bs : List Nat} (hb : ∀ b ∈ bs, b < 256) : (wordsN bs).1 < 18446744073709551616 ∧ (wordsN bs).2 < 18446744073709551616 :=
 wordsL_lt _ 0 (0, 0) (by rw [List.length_take]; omega) (fun b h => hb b (List.mem_of_mem_take h)) (by decide) (by decide)
def RelWo (bs : List Nat) (kb m : Nat) (W : World) (i : Value) (wr : World) : Prop := ∃ j : Nat, j ≤ m ∧ i = .int .i64 (j : Int) ∧ Fr W wr ∧ (wr.cell? ⟨kb + 1, 0, none⟩ = some (.int .u64 ((wordsL (bs.take j) 0 (0, 0)).1 : Int)) ∧ wr.cell? ⟨kb + 1, 1, none⟩ = some (.int .u64 ((wordsL (bs.take j) 0 (0, 0)).2 : Int))) ∧ (wr.frozen? ⟨kb + 1, 0, none⟩ = false ∧ wr.frozen? ⟨kb + 1, 1, none⟩ = false) ∧ (wr.cell? ⟨kb, 0, none⟩ = some (.int .u64 0) ∧ wr.cell? ⟨kb, 1, none⟩ = some (.int .u64 0)) ∧ wr.frozen? ⟨kb, 0, none⟩ = false ∧ wr.frozen? ⟨kb, 1, none⟩ = false
theorem or_byte {x b s : Nat} (hx : x < 18446744073709551616) (hb : b < 256) (hs : s ≤ 7) : bits .or .u64 (x : Int) (IntKind.u64.wrap ((b : Int) * 2 ^ (s * 8))) = ((x ||| b * 2 ^ (s * 8) : Nat) : Int) := by
 have e : 2 ^ (s * 8) ≤ 2 ^ 56 := Nat.pow_le_pow_right (by decide) (by omega)
 have h : b * 2 ^ (s * 8) ≤ 255 * 2 ^ 56 := Nat.mul_le_mul (by omega) e
 have e2 : (b : Int) * 2 ^ (s * 8) = ((b * 2 ^ (s * 8) : Nat) : Int) := by simp
 rw [e2, wrap_u64 (by omega)]
 exact u64_or_nat _ _ hx (by omega)
set_option maxHeartbeats 6400000 in
set_option maxRecDepth 100000 in
theorem cwordsOf_any {w : World} {A : Option Addr} {bs : List Nat} (c : Nat) (h : RowOf ByC 1 w A bs) (hm : bs.length ≤ maxLen) :
   Calls Tryz.prog 37 #[.slice A bs.length c] w fun e w' => e = .returned (.agg #[.int .u64 ((wordsN bs).1 : Int), .int .u64 ((wordsN bs).2 : Int)]) ∧ Fr w w' := by
 have HR := Lib.hid h
 obtain ⟨m, hmm⟩ : ∃ m, min bs.length 15 = m := ⟨_, rfl⟩
 have hmi : min (bs.length : Int) 15 = (m : Int) := by omega
 have hml : m ≤ bs.length := by omega
 have hm15 : m ≤ 15 := by omega
 have HT := Lib.hid (show bs.take 15 = bs.take m by
   rw [← hmm]
   rcases Nat.le_total bs.length 15 with h1 | h1
   · rw [Nat.min_eq_left h1, List.take_of_length_le h1, List.take_length]
   · rw [Nat.min_eq_right h1])
 have HB0 := Lib.hid (BlkAt.fr (BlkAt.alloc (w := w) (t := 92) (cs := #[.int .u64 0, .int .u64 0])) (Fr.alloc (Fr.refl _) (.cells #[.int .u64 0, .int .u64 0] 92)))
 have HB1 := Lib.hid (show BlkAt ((w.alloc (.cells #[.int .u64 0, .int .u64 0] 92)).alloc (.cells #[.int .u64 0, .int .u64 0] 92)) (w.heap.size + 1) [.int .u64 0, .int .u64 0] from by
   have := BlkAt.alloc (w := w.alloc (.cells #[.int .u64 0, .int .u64 0] 92)) (t := 92) (cs := #[.int .u64 0, .int .u64 0])
   simpa using this)
 have HG0 := Lib.hid (show ∀ k, ((w.alloc (.cells #[.int .u64 0, .int .u64 0] 92)).alloc (.cells #[.int .u64 0, .int .u64 0] 92)).frozen? ⟨w.heap.size, k, none⟩ = false from fun k => ((Fr.alloc (Fr.refl (w.alloc (.cells #[.int .u64 0, .int .u64 0] 92))) _).cells.2.1 _ k (by simp)).trans (World.frozen?_alloc_at _ _ _ _ rfl))
 have HG1 := Lib.hid (show ∀ k, ((w.alloc (.cells #[.int .u64 0, .int .u64 0] 92)).alloc (.cells #[.int .u64 0, .int .u64 0] 92)).frozen? ⟨w.heap.size + 1, k, none⟩ = false from fun k => World.frozen?_alloc_at _ _ _ _ (by simp))
 have HF1 := Lib.hid (show Fr w ((w.alloc (.cells #[.int .u64 0, .int .u64 0] 92)).alloc (.cells #[.int .u64 0, .int .u64 0] 92)) from Fr.alloc (Fr.alloc (Fr.refl w) _) _)
 unfold wordsN
 rw [HT.out]
 have HLT := Lib.hid (fun (j : Nat) (hj : j ≤ 15) (hbs : ∀ b ∈ bs, b < 256) => wordsL_lt (bs.take j) 0 (0, 0) (by rw [List.length_take]; omega) (fun b h => hbs b (List.mem_of_mem_take h)) (by decide) (by decide))
 have HBS := Lib.hid (show ∀ b ∈ bs, b < 256 from fun b hb => by
   obtain ⟨i, hi, rfl⟩ := List.mem_iff_getElem.1 hb
   obtain ⟨_, _, _, hx⟩ := h.at hi
   exact hx.1)
 have hbl : bs.length ≤ 9223372036854775807 := Nat.le_trans hm (by decide)
 clear h hmm hm
 go_enter Tryz.func37, Tryz.ntmps37
 go_wp2_with fail
 generalize World.alloc (World.alloc w _) _ = W2 at *
 obtain ⟨kb, hkb⟩ : ∃ kb, w.heap.size = kb := ⟨_, rfl⟩
 have HKB := Lib.hid hkb
 rw [hkb] at HB0 HB1 HG0 HG1
 rw [hkb]
 clear hkb
 go_loopw [8] (fun i wr => RelWo bs kb m w i wr) (fun i _ => m - (intOf i).toNat)
 case atStart => exact ⟨0, Nat.zero_le _, rfl, HF1.out, ⟨HB1.out 0 _ rfl, HB1.out 1 _ rfl⟩, ⟨HG1.out 0, HG1.out 1⟩, ⟨HB0.out 0 _ rfl, HB0.out 1 _ rfl⟩, HG0.out 0, HG0.out 1⟩
 case round =>
   obtain ⟨j, hj, rfl, hf, ⟨k0, k1⟩, ⟨f0, f1⟩, ⟨z0, z1⟩, g0, g1⟩ := hrel
   have HF := Lib.hid hf
   clear hf
   have zk := lt_of_cell k0
   have zz := lt_of_cell z0
   by_cases hlt : j < m
   · have hji : (j : Int) < (m : Int) := by omega
     have hj0 : (0 : Int) ≤ (j : Int) := by omega
     have hjb : j < bs.length := by omega
     have hjbi : (j : Int) < (bs.length : Int) := by omega
     have HST := Lib.hid (wordsL_take hjb)
     have HXL := Lib.hid (HLT.out j (by omega) HBS.out)
     obtain ⟨be, oe, rfl, hx⟩ := (HR.out.fr fun _ _ _ x => x.fr HF.out).at hjb
     rw [Nat.one_mul] at hx
     generalize bs[j] = b at *
     obtain ⟨hb, hx⟩ := hx
     have zx := lt_of_cell hx
     have hbw : IntKind.u64.wrap (b : Int) = (b : Int) := wrap_u64 (by omega)
     generalize wordsL (bs.take j) 0 (0, 0) = X at *
     obtain ⟨x0, x1⟩ := X
     simp only at k0 k1
     by_cases h8 : j < 8
     · skip
       have e1 : Int.tdiv (j : Int) 8 = 0 := by rw [Int.tdiv_eq_ediv_of_nonneg (by omega)]; omega
       have e2 : Int.tmod (j : Int) 8 = (j : Int) := by rw [Int.tmod_eq_emod_of_nonneg (by omega)]; omega
       have hw0 : IntKind.i64.wrap 0 = 0 := by decide
       have hwp : IntKind.i64.wrap (j : Int) = (j : Int) := wrap_in (by omega) (by omega)
       have hwm : IntKind.i64.wrap ((j : Int) * 8) = ((j * 8 : Nat) : Int) := by rw [show (j : Int) * 8 = ((j * 8 : Nat) : Int) by omega]; exact wrap_in (by omega) (by omega)
       have HOB := or_byte (x := x0) (b := b) (s := j) (by first | exact HXL.out.1 | exact HXL.out.2) hb (by omega)
       have HV := Lib.hid (show wordP (x0, x1) j b = (x0 ||| b * 2 ^ (j * 8), x1) by unfold wordP; rw [if_pos h8])
       generalize x0 ||| b * 2 ^ (j * 8) = y at *
       have hm64 : j * 8 < 64 := by omega
       obtain ⟨mm, hmm⟩ : ∃ mm, j * 8 = mm := ⟨_, rfl⟩
       rw [hmm] at hwm HOB hm64
       clear hmm
       try clear hs
       go_wp2_with fail
       go_still_tail 15, (by kernel_rfl)
       change wpList _ _ _ _ _ wr.drew
       go_wp2
       have HFN := Lib.hid (show Fr w (wr.setCell ⟨kb + 1, 0, none⟩ (.int .u64 (y : Int))).drew from Fr.drew (Fr.set HF.out (p := ⟨kb + 1, 0, none⟩) (by have := HKB.out; simp only; omega) (.int .u64 (y : Int))))
       have HC1 := Lib.hid (show (wr.setCell ⟨kb + 1, 0, none⟩ (.int .u64 (y : Int))).drew.cell? ⟨kb + 1, 0, none⟩ = some (.int .u64 (y : Int)) from World.cell?_setCell_same wr ⟨kb + 1, 0, none⟩ (.int .u64 (y : Int)) k0)
       have HC2 := Lib.hid (show (wr.setCell ⟨kb + 1, 0, none⟩ (.int .u64 (y : Int))).drew.cell? ⟨kb + 1, 1, none⟩ = some (.int .u64 (x1 : Int)) from new_cell (i := 0) (j := 1) (v := .int .u64 (y : Int)) k1 (by decide))
       have HZ := Lib.hid (show (wr.setCell ⟨kb + 1, 0, none⟩ (.int .u64 (y : Int))).drew.cell? ⟨kb, 0, none⟩ = some (.int .u64 0) ∧ (wr.setCell ⟨kb + 1, 0, none⟩ (.int .u64 (y : Int))).drew.cell? ⟨kb, 1, none⟩ = some (.int .u64 0) from ⟨(World.cell?_setCell_other wr _ _ _ (by intro e; injection e with e; omega)).trans z0, (World.cell?_setCell_other wr _ _ _ (by intro e; injection e with e; omega)).trans z1⟩)
       have HFR := Lib.hid (show ∀ (q o : Nat), wr.frozen? ⟨q, o, none⟩ = false → (wr.setCell ⟨kb + 1, 0, none⟩ (.int .u64 (y : Int))).drew.frozen? ⟨q, o, none⟩ = false from fun q o h2 => (World.frozen?_setCell wr _ _ _).trans h2)
       have HFF := Lib.hid (And.intro (And.intro (HFR.out _ _ f0) (HFR.out _ _ f1)) (And.intro (HFR.out _ _ g0) (HFR.out _ _ g1)))
       generalize World.drew (World.setCell wr _ _) = W3 at *
       go_roundw
       case rel => exact ⟨j + 1, by omega, by go_num, HFN.out, by rw [HST.out, HV.out]; exact ⟨HC1.out, HC2.out⟩, HFF.out.1, HZ.out, HFF.out.2⟩
       case measure => simp [intOf]; omega
     · obtain ⟨s, hs⟩ : ∃ s, j = 8 + s := ⟨j - 8, by omega⟩
       have e1 : Int.tdiv (j : Int) 8 = 1 := by rw [Int.tdiv_eq_ediv_of_nonneg (by omega)]; omega
       have e2 : Int.tmod (j : Int) 8 = (s : Int) := by rw [Int.tmod_eq_emod_of_nonneg (by omega)]; omega
       have hw0 : IntKind.i64.wrap 1 = 1 := by decide
       have hwp : IntKind.i64.wrap (s : Int) = (s : Int) := wrap_in (by omega) (by omega)
       have hwm : IntKind.i64.wrap ((s : Int) * 8) = ((s * 8 : Nat) : Int) := by rw [show (s : Int) * 8 = ((s * 8 : Nat) : Int) by omega]; exact wrap_in (by omega) (by omega)
       have HOB := or_byte (x := x1) (b := b) (s := s) (by first | exact HXL.out.1 | exact HXL.out.2) hb (by omega)
       have HV := Lib.hid (show wordP (x0, x1) j b = (x0, x1 ||| b * 2 ^ (s * 8)) by unfold wordP; rw [if_neg h8, show j - 8 = s by omega])
       generalize x1 ||| b * 2 ^ (s * 8) = y at *
       have hm64 : s * 8 < 64 := by omega
       obtain ⟨mm, hmm⟩ : ∃ mm, s * 8 = mm := ⟨_, rfl⟩
       rw [hmm] at hwm HOB hm64
       clear hmm
       try clear hs
       go_wp2_with fail
       go_still_tail 15, (by kernel_rfl)
       change wpList _ _ _ _ _ wr.drew
       go_wp2
       have HFN := Lib.hid (show Fr w (wr.setCell ⟨kb + 1, 1, none⟩ (.int .u64 (y : Int))).drew from Fr.drew (Fr.set HF.out (p := ⟨kb + 1, 1, none⟩) (by have := HKB.out; simp only; omega) (.int .u64 (y : Int))))
       have HC1 := Lib.hid (show (wr.setCell ⟨kb + 1, 1, none⟩ (.int .u64 (y : Int))).drew.cell? ⟨kb + 1, 1, none⟩ = some (.int .u64 (y : Int)) from World.cell?_setCell_same wr ⟨kb + 1, 1, none⟩ (.int .u64 (y : Int)) k1)
       have HC2 := Lib.hid (show (wr.setCell ⟨kb + 1, 1, none⟩ (.int .u64 (y : Int))).drew.cell? ⟨kb + 1, 0, none⟩ = some (.int .u64 (x0 : Int)) from new_cell (i := 1) (j := 0) (v := .int .u64 (y : Int)) k0 (by decide))
       have HZ := Lib.hid (show (wr.setCell ⟨kb + 1, 1, none⟩ (.int .u64 (y : Int))).drew.cell? ⟨kb, 0, none⟩ = some (.int .u64 0) ∧ (wr.setCell ⟨kb + 1, 1, none⟩ (.int .u64 (y : Int))).drew.cell? ⟨kb, 1, none⟩ = some (.int .u64 0) from ⟨(World.cell?_setCell_other wr _ _ _ (by intro e; injection e with e; omega)).trans z0, (World.cell?_setCell_other wr _ _ _ (by intro e; injection e with e; omega)).trans z1⟩)
       have HFR := Lib.hid (show ∀ (q o : Nat), wr.frozen? ⟨q, o, none⟩ = false → (wr.setCell ⟨kb + 1, 1, none⟩ (.int .u64 (y : Int))).drew.frozen? ⟨q, o, none⟩ = false from fun q o h2 => (World.frozen?_setCell wr _ _ _).trans h2)
       have HFF := Lib.hid (And.intro (And.intro (HFR.out _ _ f0) (HFR.out _ _ f1)) (And.intro (HFR.out _ _ g0) (HFR.out _ _ g1)))
       generalize World.drew (World.setCell wr _ _) = W3 at *
       go_roundw
       case rel => exact ⟨j + 1, by omega, by go_num, HFN.out, by rw [HST.out, HV.out]; exact ⟨HC2.out, HC1.out⟩, HFF.out.1, HZ.out, HFF.out.2⟩
       case measure => simp [intOf]; omega
   · obtain rfl : j = m := by omega
     clear hj
     obtain ⟨X, hX⟩ : ∃ X, wordsL (bs.take j) 0 (0, 0) = X := ⟨_, rfl⟩
     rw [hX] at k0 k1
     have HX := Lib.hid hX
     clear hX
     obtain ⟨x0, x1⟩ := X
     simp only at k0 k1
     have HFN := Lib.hid (Fr.set (Fr.set HF.out (p := ⟨kb, 0, none⟩) (by have := HKB.out; simp only; omega) (.int .u64 (x0 : Int))) (p := ⟨kb, 1, none⟩) (by have := HKB.out; simp only; omega) (.int .u64 (x1 : Int)))
     go_wp2
     exact bodyPost_ret (v := .agg #[.int .u64 (x0 : Int), .int .u64 (x1 : Int)]) (by simp [results, Tryz.results37, go_sem, *]) rfl ⟨by rw [HX.out], HFN.out⟩
end Go.Proofs.YtdipnhghdajplaaGreatDoor
